import PyProof.Rows.All
import HandS.ForExc
import HandS.ForMost
import HandS.Wide
import HandS.Zip
import HandS.IsInst
import HandS.WideMore
import HandS.WideBits
import KE.GoesMore
import KE.GoesEnum
import HandS.NoneIn
import HandS.Star
import HandS.SlotsOwn
import HandS.OwnEq
import HandS.Codes
import OpenK.KMeth
import KE.KOpsOwn
import HandS.Gcd
import HandS.TupLe
import KE.KMathGC
import HandS.ExcInit
import HandS.ExcOwn
import HandS.WordsExc
import HandS.ExcField
import HandS.ExcIs
import KE.KExcIs
import HandS.Property
import HandS.HotCalls
import HandS.FltList
import KE.DataMinMax
import HandS.Dict
import HandS.Conv
import HandS.Style
import HandS.More
import HandS.Sort
import PySem.Challenge.RW_signedpacts_k77_views
set_option Elab.async false
set_option linter.all false
set_option maxRecDepth 100000
/-! The data layer: what a def does, told over plain data (no heap in what is read). -/
namespace DL
open PySem PySem.Spec L2

/-- plain data that never changes -/
inductive P where
  | non | bl (b : Bool) | int (i : Int) | str (s : Str) | ob (a : Addr) | ty (n : String)
  | lst (xs : List P) | rol (xs : List P) | tup (xs : List P) | ins (C : Addr) (fs : List (Str × P)) | dic (kvs : List (Key × P)) | rng (n : Nat)
/-- what a slot of a def holds: plain data, or a list that is the slot's own -/
inductive D where
  | sh (p : P) | ol (ps : List P) | oll (pss : List (List P)) | oi (C : Addr) (fs : List (Str × P)) | od (kvs : List (Key × P))

def Ex (B H : Hp) : Prop := ∀ a o, B a = some o → H a = some o
theorem Ex.refl (H : Hp) : Ex H H := fun _ _ h => h
theorem Ex.trans {H H1 H2 : Hp} (a : Ex H H1) (b : Ex H1 H2) : Ex H H2 := fun x o h => b x o (a x o h)
theorem Ex.rd {H H' : Hp} {a : Addr} {u : HO} (e : Ex H H') (h : Rd H a u) : Rd H' a u := by
  rcases h with h | ⟨o, h⟩
  · exact Or.inl (e a _ h)
  · exact Or.inr ⟨o, e a _ h⟩
theorem Ex.sqL {K : PySem.W.Frag} {H H' : Hp} {a : Addr} {xs : List V} (e : Ex H H') (h : SqL K H a xs) : SqL K H' a xs := by
  rcases h with h | h
  · exact Or.inl (e.rd h)
  · exact Or.inr h
theorem Ex.sqT {K : PySem.W.Frag} {H H' : Hp} {a : Addr} {xs : List V} (e : Ex H H') (h : SqT K H a xs) : SqT K H' a xs := by
  rcases h with h | h
  · exact Or.inl (e.rd h)
  · exact Or.inr h
theorem Ex.back {H H' : Hp} {p : Addr} (e : Ex H H') (h : H' p = none) : H p = none := by
  cases h1 : H p with
  | none => rfl
  | some o => rw [e p o h1] at h; cases h

/-! ### how data lies in the heap -/
section
variable (K : PySem.W.Frag) (B : Hp)
mutual
/-- v is the datum, by what stands in B -/
def Rp : P → V → Prop
  | .non, v => v = .non
  | .bl b, v => v = .bl b
  | .int i, v => v = .int i
  | .str s, v => v = .str s
  | .ob a, v => v = .ref a
  | .ty n, v => v = .ty n
  | .lst xs, v => ∃ a vs, v = .ref a ∧ B a = some (.lst vs) ∧ RpA xs vs
  | .rol xs, v => ∃ a vs, v = .ref a ∧ SqL K B a vs ∧ RpA xs vs
  | .tup xs, v => ∃ a vs, v = .ref a ∧ SqT K B a vs ∧ RpA xs vs
  | .ins C fs, v => ∃ a dx fv, v = .ref a ∧ B a = some (.ins C dx fv) ∧ RpF fs fv
  | .dic kvs, v => ∃ a us, v = .ref a ∧ B a = some (.dK us) ∧ RpK kvs us
  | .rng n, v => ∃ a, v = .ref a ∧ B a = some (.rng 0 (n : Int))
def RpA : List P → List V → Prop
  | [], vs => vs = []
  | p :: ps, vs => ∃ v r, vs = v :: r ∧ Rp p v ∧ RpA ps r
def RpF : List (Str × P) → List (Str × V) → Prop
  | [], vs => vs = []
  | (n, p) :: ps, vs => ∃ v r, vs = (n, v) :: r ∧ Rp p v ∧ RpF ps r
def RpK : List (Key × P) → List (Key × V) → Prop
  | [], vs => vs = []
  | (n, p) :: ps, vs => ∃ v r, vs = (n, v) :: r ∧ Rp p v ∧ RpK ps r
end
end
section
variable {K : PySem.W.Frag} {B B' H : Hp}
mutual
theorem Rp.mono (e : Ex B B') : ∀ (p : P) {v : V}, Rp K B p v → Rp K B' p v
  | .non, _, h => h
  | .bl _, _, h => h
  | .int _, _, h => h
  | .str _, _, h => h
  | .ob _, _, h => h
  | .ty _, _, h => h
  | .lst xs, _, ⟨a, vs, e1, e2, e3⟩ => ⟨a, vs, e1, e a _ e2, RpA.mono e xs e3⟩
  | .rol xs, _, ⟨a, vs, e1, e2, e3⟩ => ⟨a, vs, e1, e.sqL e2, RpA.mono e xs e3⟩
  | .tup xs, _, ⟨a, vs, e1, e2, e3⟩ => ⟨a, vs, e1, e.sqT e2, RpA.mono e xs e3⟩
  | .ins C fs, _, ⟨a, dx, fv, e1, e2, e3⟩ => ⟨a, dx, fv, e1, e a _ e2, RpF.mono e fs e3⟩
  | .dic kvs, _, ⟨a, us, e1, e2, e3⟩ => ⟨a, us, e1, e a _ e2, RpK.mono e kvs e3⟩
  | .rng _, _, ⟨a, e1, e2⟩ => ⟨a, e1, e a _ e2⟩
theorem RpA.mono (e : Ex B B') : ∀ (ps : List P) {vs : List V}, RpA K B ps vs → RpA K B' ps vs
  | [], _, h => h
  | p :: ps, _, ⟨v, r, e1, e2, e3⟩ => ⟨v, r, e1, Rp.mono e p e2, RpA.mono e ps e3⟩
theorem RpF.mono (e : Ex B B') : ∀ (ps : List (Str × P)) {vs : List (Str × V)}, RpF K B ps vs → RpF K B' ps vs
  | [], _, h => h
  | (_, p) :: ps, _, ⟨v, r, e1, e2, e3⟩ => ⟨v, r, e1, Rp.mono e p e2, RpF.mono e ps e3⟩
theorem RpK.mono (e : Ex B B') : ∀ (ps : List (Key × P)) {vs : List (Key × V)}, RpK K B ps vs → RpK K B' ps vs
  | [], _, h => h
  | (_, p) :: ps, _, ⟨v, r, e1, e2, e3⟩ => ⟨v, r, e1, Rp.mono e p e2, RpK.mono e ps e3⟩
end
theorem RpA.length : ∀ {ps : List P} {vs : List V}, RpA K B ps vs → vs.length = ps.length
  | [], _, h => by rw [show _ = [] from h]; rfl
  | p :: ps, _, ⟨v, r, e1, _, e3⟩ => by rw [e1, List.length_cons, List.length_cons, RpA.length e3]
theorem RpA.get : ∀ {ps : List P} {vs : List V} {i : Nat} {p : P}, RpA K B ps vs → ps[i]? = some p → ∃ v, vs[i]? = some v ∧ Rp K B p v
  | [], _, _, _, _, h => by simp at h
  | p :: ps, _, 0, q, ⟨v, r, e1, e2, e3⟩, h => by
    have e : p = q := Option.some.inj h
    subst e
    exact ⟨v, by rw [e1]; rfl, e2⟩
  | p :: ps, _, i + 1, q, ⟨v, r, e1, e2, e3⟩, h => by
    obtain ⟨u, h1, h2⟩ := RpA.get (i := i) (p := q) e3 h
    exact ⟨u, by rw [e1]; exact h1, h2⟩
theorem RpA.append : ∀ {ps qs : List P} {vs ws : List V}, RpA K B ps vs → RpA K B qs ws → RpA K B (ps ++ qs) (vs ++ ws)
  | [], _, _, _, h, g => by rw [show _ = [] from h]; exact g
  | p :: ps, qs, _, ws, ⟨v, r, e1, e2, e3⟩, g => ⟨v, r ++ ws, by rw [e1]; rfl, e2, RpA.append e3 g⟩
theorem RpA.one {p : P} {v : V} (h : Rp K B p v) : RpA K B [p] [v] := ⟨v, [], rfl, h, rfl⟩
theorem RpA.set : ∀ {ps : List P} {vs : List V} {i : Nat} {p : P} {v : V}, RpA K B ps vs → Rp K B p v → RpA K B (ps.set i p) (vs.set i v)
  | [], _, _, _, _, h, _ => by rw [show _ = [] from h]; rfl
  | p :: ps, _, 0, q, u, ⟨v, r, e1, e2, e3⟩, h => by rw [e1]; exact ⟨u, r, rfl, h, e3⟩
  | p :: ps, _, i + 1, q, u, ⟨v, r, e1, e2, e3⟩, h => by rw [e1]; exact ⟨v, r.set i u, rfl, e2, RpA.set e3 h⟩
theorem RpA.take : ∀ {ps : List P} {vs : List V} (n : Nat), RpA K B ps vs → RpA K B (ps.take n) (vs.take n)
  | _, _, 0, _ => by simp [RpA]
  | [], _, n + 1, h => by rw [show _ = [] from h]; rfl
  | p :: ps, _, n + 1, ⟨v, r, e1, e2, e3⟩ => by rw [e1]; exact ⟨v, r.take n, rfl, e2, RpA.take n e3⟩
theorem RpA.drop : ∀ {ps : List P} {vs : List V} (n : Nat), RpA K B ps vs → RpA K B (ps.drop n) (vs.drop n)
  | _, _, 0, h => h
  | [], _, n + 1, h => by rw [show _ = [] from h]; rfl
  | p :: ps, _, n + 1, ⟨v, r, e1, e2, e3⟩ => by rw [e1]; exact RpA.drop n e3
theorem RpA.reverse : ∀ {ps : List P} {vs : List V}, RpA K B ps vs → RpA K B ps.reverse vs.reverse
  | [], _, h => by rw [show _ = [] from h]; rfl
  | p :: ps, _, ⟨v, r, e1, e2, e3⟩ => by
    rw [e1, List.reverse_cons, List.reverse_cons]
    exact RpA.append (RpA.reverse e3) (RpA.one e2)
theorem RpA.rep {p : P} {v : V} (h : Rp K B p v) : ∀ n : Nat, RpA K B (List.replicate n p) (List.replicate n v)
  | 0 => rfl
  | n + 1 => ⟨v, List.replicate n v, rfl, h, RpA.rep h n⟩
theorem RpA.ints : ∀ {ns : List Int}, RpA K B (ns.map P.int) (ns.map V.int)
  | [] => rfl
  | n :: ns => ⟨V.int n, ns.map V.int, rfl, rfl, RpA.ints⟩
theorem RpA.ints_inv : ∀ {ns : List Int} {vs : List V}, RpA K B (ns.map P.int) vs → vs = ns.map V.int
  | [], _, h => h
  | n :: ns, _, ⟨v, r, e1, e2, e3⟩ => by rw [e1, RpA.ints_inv e3, show v = V.int n from e2]; rfl
end

/-- what a slot holds, and the objects that are its own -/
def RpD (K : PySem.W.Frag) (B H : Hp) : D → V → List Addr → Prop
  | .sh p, v, F => F = [] ∧ Rp K B p v
  | .ol ps, v, F => ∃ a vs, F = [a] ∧ v = .ref a ∧ H a = some (.lst vs) ∧ RpA K B ps vs
  | .oll pss, v, F => ∃ a as, F = a :: as ∧ v = .ref a ∧ H a = some (.lst (as.map V.ref)) ∧ as.length = pss.length ∧
      ∀ (i : Nat) (b : Addr) (ps : List P), as[i]? = some b → pss[i]? = some ps → ∃ vs, H b = some (.lst vs) ∧ RpA K B ps vs
  | .oi C fs, v, F => ∃ a dx fv, F = [a, dx] ∧ v = .ref a ∧ H a = some (.ins C dx fv) ∧ H dx = some (.own a) ∧ RpF K B fs fv
  | .od kvs, v, F => ∃ a us, F = [a] ∧ v = .ref a ∧ H a = some (.dK us) ∧ RpK K B kvs us
theorem RpD.mono {K : PySem.W.Frag} {B B' H H' : Hp} (e : Ex B B') : ∀ {d : D} {v : V} {F : List Addr}, RpD K B H d v F → (∀ a ∈ F, ∀ o, H a = some o → H' a = some o) → RpD K B' H' d v F
  | .sh p, _, _, ⟨e1, e2⟩, _ => ⟨e1, Rp.mono e p e2⟩
  | .ol ps, _, _, ⟨a, vs, e1, e2, e3, e4⟩, k => ⟨a, vs, e1, e2, k a (by rw [e1]; exact List.mem_cons_self) _ e3, RpA.mono e ps e4⟩
  | .oll pss, _, _, ⟨a, as, e1, e2, e3, e4, e5⟩, k => ⟨a, as, e1, e2, k a (by rw [e1]; exact List.mem_cons_self) _ e3, e4, fun i b ps h1 h2 => by
    obtain ⟨vs, g1, g2⟩ := e5 i b ps h1 h2
    exact ⟨vs, k b (by rw [e1]; exact List.mem_cons_of_mem _ (List.mem_of_getElem? h1)) _ g1, RpA.mono e ps g2⟩⟩
  | .oi C fs, _, _, ⟨a, dx, fv, e1, e2, e3, e4, e5⟩, k => ⟨a, dx, fv, e1, e2, k a (by rw [e1]; exact List.mem_cons_self) _ e3, k dx (by rw [e1]; exact List.mem_cons_of_mem _ List.mem_cons_self) _ e4, RpF.mono e fs e5⟩
  | .od kvs, _, _, ⟨a, us, e1, e2, e3, e4⟩, k => ⟨a, us, e1, e2, k a (by rw [e1]; exact List.mem_cons_self) _ e3, RpK.mono e kvs e4⟩
theorem RpD.there {K : PySem.W.Frag} {B H : Hp} : ∀ {d : D} {v : V} {F : List Addr}, RpD K B H d v F → ∀ a ∈ F, ∃ o, H a = some o
  | .sh p, _, _, ⟨e1, _⟩, a, h => by rw [e1] at h; cases h
  | .ol ps, _, _, ⟨a, vs, e1, e2, e3, e4⟩, b, h => by
    rw [e1] at h
    rw [List.mem_singleton.mp h]
    exact ⟨_, e3⟩
  | .oll pss, _, _, ⟨a, as, e1, e2, e3, e4, e5⟩, b, h => by
    rw [e1] at h
    rcases List.mem_cons.mp h with h | h
    · rw [h]; exact ⟨_, e3⟩
    · obtain ⟨i, hi, e⟩ := List.getElem_of_mem h
      have h2 : pss[i]? = some (pss[i]'(by omega)) := List.getElem?_eq_getElem _
      obtain ⟨vs, g1, _⟩ := e5 i b _ (by rw [List.getElem?_eq_getElem hi, e]) h2
      exact ⟨_, g1⟩
  | .oi C fs, _, _, ⟨a, dx, fv, e1, e2, e3, e4, e5⟩, b, h => by
    rw [e1] at h
    rcases List.mem_cons.mp h with h | h
    · rw [h]; exact ⟨_, e3⟩
    · rw [List.mem_singleton.mp h]; exact ⟨_, e4⟩
  | .od kvs, _, _, ⟨a, us, e1, e2, e3, e4⟩, b, h => by
    rw [e1] at h
    rw [List.mem_singleton.mp h]
    exact ⟨_, e3⟩

/-- a slot's own list becomes plain data -/
def D.frz : D → P
  | .sh p => p
  | .ol ps => .lst ps
  | .oll pss => .lst (pss.map P.lst)
  | .oi C fs => .ins C fs
  | .od kvs => .dic kvs

abbrev Env := List (Option D)
abbrev Fp := Nat → List Addr

/-- the world: B what is plain and stays, H all; each slot's own objects -/
structure Wd0 (K : PySem.W.Frag) (B H : Hp) (σ : St) (env : Env) (G : Fp) : Prop where
  ex : Ex B H
  sl : ∀ i d, env[i]? = some (some d) → ∃ v, σ[i]? = some (some v) ∧ RpD K B H d v (G i)
  no : ∀ i, (∀ d, env[i]? ≠ some (some d)) → G i = []
  nd : ∀ i, (G i).Nodup
  dj : ∀ i j a, a ∈ G i → a ∈ G j → i = j
  nb : ∀ i a, a ∈ G i → B a = none
  len : env.length = σ.length
/-- what stood from the start, and stays -/
class Rf where
  R : Hp
/-- nothing -/
instance (priority := low) rf0 : Rf := ⟨fun _ => none⟩
structure Wd [Rf] (K : PySem.W.Frag) (B H : Hp) (σ : St) (env : Env) (G : Fp) : Prop extends Wd0 K B H σ env G where
  rf : Ex Rf.R B
theorem rf0_ex (B : Hp) : Ex rf0.R B := fun _ _ h => nomatch h
/-- one world behind another -/
structure Stp (B H : Hp) (G : Fp) (B' H' : Hp) (G' : Fp) : Prop where
  ex : Ex B B'
  kp : ∀ a o, H a = some o → (∀ i, a ∉ G i) → H' a = some o
  fp : ∀ i a, a ∈ G' i → (∃ j, a ∈ G j) ∨ H a = none
  bs : ∀ a o, H a = some o → B a = none → (∀ i, a ∉ G i) → B' a = none
  th : ∀ a o, H a = some o → ∃ o', H' a = some o'
theorem Stp.refl {B H : Hp} {G : Fp} : Stp B H G B H G := ⟨Ex.refl _, fun _ _ h _ => h, fun i _ h => .inl ⟨i, h⟩, fun _ _ _ h _ => h, fun _ o h => ⟨o, h⟩⟩
theorem Stp.back {B H B' H' : Hp} {G G' : Fp} (s : Stp B H G B' H' G') {a : Addr} (h : H' a = none) : H a = none := by
  cases hh : H a with
  | none => rfl
  | some o =>
    obtain ⟨o', e⟩ := s.th a o hh
    rw [e] at h; cases h
theorem Stp.trans {B H B1 H1 B2 H2 : Hp} {G G1 G2 : Fp} (a : Stp B H G B1 H1 G1) (b : Stp B1 H1 G1 B2 H2 G2) : Stp B H G B2 H2 G2 where
  ex := a.ex.trans b.ex
  kp := fun x o h n => b.kp x o (a.kp x o h n) fun i hi => by
    rcases a.fp i x hi with ⟨j, hj⟩ | hn
    · exact n j hj
    · rw [h] at hn; cases hn
  fp := fun i x h => by
    rcases b.fp i x h with ⟨j, hj⟩ | hn
    · exact a.fp j x hj
    · by_cases hx : ∃ j, x ∈ G j
      · exact .inl hx
      · right
        cases hh : H x with
        | none => rfl
        | some o => rw [a.kp x o hh fun i hi => hx ⟨i, hi⟩] at hn; cases hn
  bs := fun x o h hb n => by
    refine b.bs x o (a.kp x o h n) (a.bs x o h hb n) fun i hi => ?_
    rcases a.fp i x hi with ⟨j, hj⟩ | hn
    · exact n j hj
    · rw [h] at hn; cases hn
  th := fun x o h => by
    obtain ⟨o', h1⟩ := a.th x o h
    exact b.th x o' h1
/-- behind what changes nothing -/
structure Gr (B H B' H' : Hp) : Prop where
  b : Ex B B'
  h : Ex H H'
  w : Ex B' H'
  n : ∀ a o, H a = some o → B a = none → B' a = none
theorem Gr.refl {B H : Hp} (e : Ex B H) : Gr B H B H := ⟨Ex.refl _, Ex.refl _, e, fun _ _ _ h => h⟩
theorem Gr.trans {B H B1 H1 B2 H2 : Hp} (a : Gr B H B1 H1) (b : Gr B1 H1 B2 H2) : Gr B H B2 H2 := ⟨a.b.trans b.b, a.h.trans b.h, b.w, fun x o h n => b.n x o (a.h x o h) (a.n x o h n)⟩
theorem Gr.stp {B H B' H' : Hp} {G : Fp} (g : Gr B H B' H') : Stp B H G B' H' G := ⟨g.b, fun a o h _ => g.h a o h, fun i _ h => .inl ⟨i, h⟩, fun a o h n _ => g.n a o h n, fun a o h => ⟨o, g.h a o h⟩⟩
theorem Wd.gr [Rf] {K : PySem.W.Frag} {B H B' H' : Hp} {σ : St} {env : Env} {G : Fp} (w : Wd K B H σ env G) (g : Gr B H B' H') : Wd K B' H' σ env G where
  rf := w.rf.trans g.b
  ex := g.w
  sl := fun i d e => by
    obtain ⟨v, h1, h2⟩ := w.sl i d e
    exact ⟨v, h1, RpD.mono g.b h2 fun a _ o h => g.h a o h⟩
  no := w.no
  nd := w.nd
  dj := w.dj
  nb := fun i a h => by
    by_cases hx : ∃ d, env[i]? = some (some d)
    · obtain ⟨d, e⟩ := hx
      obtain ⟨v, h1, h2⟩ := w.sl i d e
      obtain ⟨o, ho⟩ := RpD.there h2 a h
      exact g.n a o ho (w.nb i a h)
    · rw [w.no i fun d e => hx ⟨d, e⟩] at h; cases h
  len := w.len
/-- a new object, plain -/
theorem gr_new {B H : Hp} {p : Addr} {o : HO} (e : Ex B H) (h : H p = none) : Gr B H (upd B p o) (upd H p o) where
  b := fun a u k => by rw [upd_ne (ne_of_none k (e.back h))]; exact k
  h := fun a u k => by rw [upd_ne (ne_of_none k h)]; exact k
  w := fun a u k => by
    by_cases ha : a = p
    · subst ha; rw [upd_same] at k ⊢; exact k
    · rw [upd_ne ha] at k ⊢; exact e a u k
  n := fun a u k n => by rw [upd_ne (ne_of_none k h)]; exact n
end DL
set_option Elab.async false
set_option linter.all false
set_option maxRecDepth 100000
namespace DL
open PySem PySem.Spec L2
variable [Rf]
abbrev dE := Env → (P → Env → Prop) → Prop
abbrev dT := Env → (Bool → Env → Prop) → Prop
abbrev dO := Env → (D → Env → Prop) → Prop
abbrev AR := Sum P Nat
abbrev dA := Env → (List AR → Env → Prop) → Prop
/-- in the pure mode nothing of the slots changes -/
def Pure (m : Bool) (env env' : Env) (G G' : Fp) (B H B' H' : Hp) : Prop := m = true → env' = env ∧ G' = G ∧ Gr B H B' H'
theorem Pure.trans {m : Bool} {e e1 e2 : Env} {G G1 G2 : Fp} {B H B1 H1 B2 H2 : Hp} (a : Pure m e e1 G G1 B H B1 H1) (b : Pure m e1 e2 G1 G2 B1 H1 B2 H2) : Pure m e e2 G G2 B H B2 H2 := fun h => by
  obtain ⟨rfl, rfl, g⟩ := a h
  obtain ⟨rfl, rfl, g2⟩ := b h
  exact ⟨rfl, rfl, g.trans g2⟩
theorem Pure.gr {m : Bool} {e : Env} {G : Fp} {B H B1 H1 : Hp} (g : Gr B H B1 H1) : Pure m e e G G B H B1 H1 := fun _ => ⟨rfl, rfl, g⟩

theorem Wd.off {K : PySem.W.Frag} {B H : Hp} {σ : L2.St} {env : Env} {G : Fp} (w : Wd K B H σ env G) {a : Addr} (h : H a = none) (i : Nat) (hi : a ∈ G i) : False := by
  by_cases hx : ∃ d, env[i]? = some (some d)
  · obtain ⟨d, hd⟩ := hx
    obtain ⟨v', h1, h2⟩ := w.sl i d hd
    obtain ⟨o, ho⟩ := RpD.there h2 a hi
    rw [h] at ho; cases ho
  · rw [w.no i fun d e => hx ⟨d, e⟩] at hi; cases hi
structure SndE (m : Bool) (K : PySem.W.Frag) (te : TE) (de : dE) : Prop where
  run : ∀ {B H : Hp} {σ : L2.St} {env : Env} {G : Fp} {QD : P → Env → Prop} {Q : VK}, Wd K B H σ env G → de env QD →
    (∀ p env' v B' H' G', QD p env' → Wd K B' H' σ env' G' → Rp K B' p v → Stp B H G B' H' G' → Pure m env env' G G' B H B' H' → Q v H') → te σ H Q
structure SndT (m : Bool) (K : PySem.W.Frag) (te : TT) (de : dT) : Prop where
  run : ∀ {B H : Hp} {σ : L2.St} {env : Env} {G : Fp} {QD : Bool → Env → Prop} {Q : Bool → Hp → Prop}, Wd K B H σ env G → de env QD →
    (∀ b env' B' H' G', QD b env' → Wd K B' H' σ env' G' → Stp B H G B' H' G' → Pure m env env' G G' B H B' H' → Q b H') → te σ H Q
/-- something new that is the slot's own -/
structure Own (K : PySem.W.Frag) (H : Hp) (G : Fp) (B' H' : Hp) (G' : Fp) (d : D) (v : V) (F : List Addr) : Prop where
  rp : RpD K B' H' d v F
  nd : F.Nodup
  nb : ∀ a ∈ F, B' a = none
  nw : ∀ a ∈ F, (∃ j, a ∈ G j) ∨ H a = none
  ap : ∀ a ∈ F, ∀ i, a ∉ G' i
structure SndO (m : Bool) (K : PySem.W.Frag) (te : TE) (de : dO) : Prop where
  run : ∀ {B H : Hp} {σ : L2.St} {env : Env} {G : Fp} {QD : D → Env → Prop} {Q : VK}, Wd K B H σ env G → de env QD →
    (∀ d env' v F B' H' G', QD d env' → Wd K B' H' σ env' G' → Own K H G B' H' G' d v F → Stp B H G B' H' G' → Pure m env env' G G' B H B' H' → Q v H') → te σ H Q
def RpX (K : PySem.W.Frag) (B : Hp) (σ : L2.St) : List AR → List V → Prop
  | [], vs => vs = []
  | .inl p :: as, vs => ∃ v r, vs = v :: r ∧ Rp K B p v ∧ RpX K B σ as r
  | .inr i :: as, vs => ∃ v r, vs = v :: r ∧ σ[i]? = some (some v) ∧ RpX K B σ as r
structure SndA (m : Bool) (K : PySem.W.Frag) (te : TA) (de : dA) : Prop where
  run : ∀ {B H : Hp} {σ : L2.St} {env : Env} {G : Fp} {QD : List AR → Env → Prop} {Q : List V → Hp → Prop}, Wd K B H σ env G → de env QD →
    (∀ as env' vs B' H' G', QD as env' → Wd K B' H' σ env' G' → RpX K B' σ as vs → Stp B H G B' H' G' → Pure m env env' G G' B H B' H' → Q vs H') → te σ H Q
theorem RpX.mono {K : PySem.W.Frag} {B B' : Hp} {σ : L2.St} (e : Ex B B') : ∀ {as : List AR} {vs : List V}, RpX K B σ as vs → RpX K B' σ as vs
  | [], _, h => h
  | .inl p :: as, _, ⟨v, r, e1, e2, e3⟩ => ⟨v, r, e1, Rp.mono e p e2, RpX.mono e e3⟩
  | .inr i :: as, _, ⟨v, r, e1, e2, e3⟩ => ⟨v, r, e1, e2, RpX.mono e e3⟩

/-! ### the judgements -/
structure DE (m : Bool) (X : Cx) (e : Expr) (te : TE) (de : dE) : Prop where
  pe : PE X e te
  sd : SndE m X.K te de
structure DT (m : Bool) (X : Cx) (e : Expr) (te : TT) (de : dT) : Prop where
  pe : PT X e te
  sd : SndT m X.K te de
structure DW (m : Bool) (X : Cx) (e : Expr) (te : TT) (de : dT) : Prop where
  pe : PW X e te
  sd : SndT m X.K te de
structure DO (m : Bool) (X : Cx) (e : Expr) (te : TE) (de : dO) : Prop where
  pe : PE X e te
  sd : SndO m X.K te de
structure DA (m : Bool) (X : Cx) (e : List Expr) (te : TA) (de : dA) : Prop where
  pe : PA X e te
  sd : SndA m X.K te de

/-! ### values -/
def dVar (i : Nat) : dE := fun env Q => match env[i]? with
  | some (some (.sh p)) => Q p env
  | _ => False
def dC (p : P) : dE := fun env Q => Q p env
section
variable {m : Bool} {K : PySem.W.Frag} {ta tb te : TE} {da db de : dE} {tt tu : TT} {dt du : dT} {X : Cx} {a b c : Expr} {pos : Pos}
theorem snd_var {i : Nat} : SndE m K (tVar i) (dVar i) := ⟨fun {B H σ env G QD Q} w h k => by
  unfold dVar at h
  split at h
  · rename_i p e
    obtain ⟨v, h1, h2⟩ := w.sl i _ e
    exact ⟨v, h1, k p env v B H G h w h2.2 .refl (.gr (.refl w.ex))⟩
  · exact h.elim⟩
theorem snd_c {v : V} {p : P} (h : ∀ B, Rp K B p v) : SndE m K (tC v) (dC p) := ⟨fun {B H σ env G QD Q} w q k => k p env v B H G q w (h B) .refl (.gr (.refl w.ex))⟩
theorem de_v (i : Nat) (h : PE X a (tVar i)) : DE m X a (tVar i) (dVar i) := ⟨h, snd_var⟩
theorem de_int {i j} : DE m X (.Constant (.int i) j pos) (tC (.int i)) (dC (.int i)) := ⟨pe_int, snd_c fun _ => rfl⟩
theorem de_bl {i j} : DE m X (.Constant (.bool i) j pos) (tC (.bl i)) (dC (.bl i)) := ⟨pe_bl, snd_c fun _ => rfl⟩
theorem de_non {j} : DE m X (.Constant .none j pos) (tC .non) (dC .non) := ⟨pe_non, snd_c fun _ => rfl⟩
theorem de_str {x j} : DE m X (.Constant (.str x) j pos) (tC (.str x)) (dC (.str x)) := ⟨pe_str, snd_c fun _ => rfl⟩
theorem de_glob {v : V} {p : P} (h : PE X a (tC v)) (r : ∀ B, Rp X.K B p v) : DE m X a (tC v) (dC p) := ⟨h, snd_c r⟩

/-! ### operations on values -/
structure OpS (K : PySem.W.Frag) (r : R2) (rd : P → P → (P → Prop) → Prop) : Prop where
  run : ∀ {B H : Hp} {x y : V} {p q : P} {QD : P → Prop} {Q : VK}, Ex B H → Rp K B p x → Rp K B q y → rd p q QD →
    (∀ z B' H' pz, QD pz → Rp K B' pz z → Gr B H B' H' → Q z H') → r x y H Q
structure UnS (K : PySem.W.Frag) (r : V → Hp → VK → Prop) (rd : P → (P → Prop) → Prop) : Prop where
  run : ∀ {B H : Hp} {x : V} {p : P} {QD : P → Prop} {Q : VK}, Ex B H → Rp K B p x → rd p QD →
    (∀ z B' H' pz, QD pz → Rp K B' pz z → Gr B H B' H' → Q z H') → r x H Q
/-- a new object comes of it -/
structure OpO (K : PySem.W.Frag) (r : R2) (rd : P → P → (D → Prop) → Prop) : Prop where
  run : ∀ {B H : Hp} {x y : V} {p q : P} {QD : D → Prop} {Q : VK}, Ex B H → Rp K B p x → Rp K B q y → rd p q QD →
    (∀ z B' H' d F, QD d → RpD K B' H' d z F → F.Nodup → (∀ a ∈ F, B' a = none) → (∀ a ∈ F, H a = none) → Gr B H B' H' → Q z H') → r x y H Q
def dOp (rd : P → P → (P → Prop) → Prop) (da db : dE) : dE := fun env Q => da env fun p e1 => db e1 fun q e2 => rd p q fun z => Q z e2
def dUn (rd : P → (P → Prop) → Prop) (da : dE) : dE := fun env Q => da env fun p e1 => rd p fun z => Q z e1
def dOpO (rd : P → P → (D → Prop) → Prop) (da db : dE) : dO := fun env Q => da env fun p e1 => db e1 fun q e2 => rd p q fun z => Q z e2
theorem snd_op {r : R2} {rd : P → P → (P → Prop) → Prop} (hs : OpS K r rd) (ha : SndE m K ta da) (hb : SndE m K tb db) : SndE m K (tOp r ta tb) (dOp rd da db) :=
  ⟨fun {B H σ env G QD Q} w h k => ha.run w h fun p e1 v B1 H1 G1 q1 w1 r1 s1 u1 => hb.run w1 q1 fun q e2 u B2 H2 G2 q2 w2 r2 s2 u2 =>
    hs.run w2.ex (Rp.mono s2.ex p r1) r2 q2 fun z B3 H3 pz q3 r3 g3 => k pz e2 z B3 H3 G2 q3 (w2.gr g3) r3 ((s1.trans s2).trans g3.stp) ((u1.trans u2).trans (.gr g3))⟩
theorem snd_un {r : V → Hp → VK → Prop} {rd : P → (P → Prop) → Prop} (hs : UnS K r rd) (ha : SndE m K ta da) : SndE m K (tUn r ta) (dUn rd da) :=
  ⟨fun {B H σ env G QD Q} w h k => ha.run w h fun p e1 v B1 H1 G1 q1 w1 r1 s1 u1 =>
    hs.run w1.ex r1 q1 fun z B3 H3 pz q3 r3 g3 => k pz e1 z B3 H3 G1 q3 (w1.gr g3) r3 (s1.trans g3.stp) (u1.trans (.gr g3))⟩
theorem snd_opO {r : R2} {rd : P → P → (D → Prop) → Prop} (hs : OpO K r rd) (ha : SndE m K ta da) (hb : SndE m K tb db) : SndO m K (tOp r ta tb) (dOpO rd da db) :=
  ⟨fun {B H σ env G QD Q} w h k => ha.run w h fun p e1 v B1 H1 G1 q1 w1 r1 s1 u1 => hb.run w1 q1 fun q e2 u B2 H2 G2 q2 w2 r2 s2 u2 =>
    hs.run w2.ex (Rp.mono s2.ex p r1) r2 q2 fun z B3 H3 d F q3 r3 f1 f2 f3 g3 => by
      have st := (s1.trans s2)
      exact k d e2 z F B3 H3 G2 q3 (w2.gr g3) ⟨r3, f1, f2, fun a ha => .inr (st.back (f3 a ha)), fun a ha i hi => w2.off (f3 a ha) i hi⟩ (st.trans g3.stp) ((u1.trans u2).trans (.gr g3))⟩
end
end DL
set_option Elab.async false
set_option linter.all false
set_option maxRecDepth 100000
namespace DL
open PySem PySem.Spec L2
variable [Rf]
/-- one of two ways, by a truth value -/
def cnd (c : Bool) (A B : Prop) : Prop := (c = true → A) ∧ (c = false → B)
section
variable {m : Bool} {K : PySem.W.Frag} {ta tb te : TE} {da db de : dE} {tt tu : TT} {dt du : dT} {X : Cx} {a b c : Expr} {pos : Pos}
/-! ### from one mode to the other -/
theorem Pure.off {e e1 : Env} {G G1 : Fp} {B H B1 H1 : Hp} : Pure false e e1 G G1 B H B1 H1 := fun h => Bool.noConfusion h
theorem SndE.imp (h : SndE true K te de) : SndE false K te de := ⟨fun w q k => h.run w q fun p e v B H G q1 w1 r1 s1 _ => k p e v B H G q1 w1 r1 s1 .off⟩
theorem SndT.imp (h : SndT true K tt dt) : SndT false K tt dt := ⟨fun w q k => h.run w q fun p e B H G q1 w1 s1 _ => k p e B H G q1 w1 s1 .off⟩
theorem DE.imp {te de} (h : DE true X a te de) : DE false X a te de := ⟨h.pe, h.sd.imp⟩
theorem DT.imp {te de} (h : DT true X a te de) : DT false X a te de := ⟨h.pe, h.sd.imp⟩

/-! ### tests -/
def dB (de : dE) : dT := fun env Q => de env fun p e => match p with
  | .bl b => Q b e
  | _ => False
theorem snd_B (h : SndE m K te de) : SndT m K (tB te) (dB de) := ⟨fun w q k => h.run w q fun p e v B H G q1 w1 r1 s1 u1 => by
  cases p with
  | bl b => exact ⟨b, r1, k b e B H G q1 w1 s1 u1⟩
  | _ => exact q1.elim⟩
theorem snd_test (h : SndE m K te de) : SndT m K (tTest te) (dB de) := ⟨fun w q k => h.run w q fun p e v B H G q1 w1 r1 s1 u1 => by
  cases p with
  | bl b => exact ⟨b, r1, k b e B H G q1 w1 s1 u1⟩
  | _ => exact q1.elim⟩
/-- a value's truth -/
def truP : P → (Bool → Prop) → Prop
  | .non, Q => Q false
  | .bl b, Q => Q b
  | .int i, Q => Q (i != 0)
  | .str s, Q => s.length ≤ sizeLine ∧ Q ((s.length : Int) != 0)
  | .lst xs, Q => Q (!xs.isEmpty)
  | .rol xs, Q => Q (!xs.isEmpty)
  | .tup xs, Q => Q (!xs.isEmpty)
  | _, _ => False
def dTru (de : dE) : dT := fun env Q => de env fun p e => truP p fun b => Q b e
theorem RpA.isEmpty {B : Hp} {ps : List P} {vs : List V} (h : RpA K B ps vs) : vs.isEmpty = ps.isEmpty := by
  have h1 := h.length
  cases vs <;> cases ps <;> first | rfl | simp at h1
theorem tru_ok {B H : Hp} {p : P} {v : V} {QD : Bool → Prop} {Q : Bool → Hp → Prop} (e : Ex B H) (r : Rp K B p v) (q : truP p QD) (k : ∀ b, QD b → Q b H) : ∃ k, TruV K v H k ∧ Q k H := by
  cases p with
  | non => rw [show v = _ from r]; exact ⟨_, rfl, k _ q⟩
  | bl b => rw [show v = _ from r]; exact ⟨_, rfl, k _ q⟩
  | int b => rw [show v = _ from r]; exact ⟨_, rfl, k _ q⟩
  | str b => rw [show v = _ from r]; exact ⟨_, ⟨q.1, rfl⟩, k _ q.2⟩
  | lst xs => obtain ⟨a, vs, rfl, h1, h2⟩ := r; exact ⟨_, .inl ⟨vs, SqL.of (e a _ h1), rfl⟩, by rw [h2.isEmpty]; exact k _ q⟩
  | rol xs => obtain ⟨a, vs, rfl, h1, h2⟩ := r; exact ⟨_, .inl ⟨vs, e.sqL h1, rfl⟩, by rw [h2.isEmpty]; exact k _ q⟩
  | tup xs => obtain ⟨a, vs, rfl, h1, h2⟩ := r; exact ⟨_, .inr (.inl ⟨vs, e.sqT h1, rfl⟩), by rw [h2.isEmpty]; exact k _ q⟩
  | ob _ => exact q.elim
  | ty _ => exact q.elim
  | ins _ _ => exact q.elim
  | dic _ => exact q.elim
  | rng _ => exact q.elim
theorem snd_tru (h : SndE m K te de) : SndT m K (fun σ H Q => te σ H fun x H' => ∃ k, TruV K x H' k ∧ Q k H') (dTru de) := ⟨fun w q k => h.run w q fun p e v B H G q1 w1 r1 s1 u1 =>
  tru_ok w1.ex r1 q1 fun b qb => k b e B H G qb w1 s1 u1⟩
def dAnd (dt du : dT) : dT := fun env Q => dt env fun c e => cnd c (du e Q) (Q false e)
def dOr (dt du : dT) : dT := fun env Q => dt env fun c e => cnd c (Q true e) (du e Q)
def dNot (dt : dT) : dT := fun env Q => dt env fun c e => Q (!c) e
theorem snd_and (h : SndT m K tt dt) (g : SndT m K tu du) : SndT m K (tAnd tt tu) (dAnd dt du) := ⟨fun w q k => h.run w q fun b e B H G q1 w1 s1 u1 => by
  cases b with
  | true =>
    replace q1 := q1.1 rfl
    rw [if_pos rfl]
    exact g.run w1 q1 fun b e B H G q2 w2 s2 u2 => k b e B H G q2 w2 (s1.trans s2) (u1.trans u2)
  | false =>
    replace q1 := q1.2 rfl
    rw [if_neg Bool.false_ne_true]
    exact k false e B H G q1 w1 s1 u1⟩
theorem snd_or (h : SndT m K tt dt) (g : SndT m K tu du) : SndT m K (tOr tt tu) (dOr dt du) := ⟨fun w q k => h.run w q fun b e B H G q1 w1 s1 u1 => by
  cases b with
  | false =>
    replace q1 := q1.2 rfl
    rw [if_neg Bool.false_ne_true]
    exact g.run w1 q1 fun b e B H G q2 w2 s2 u2 => k b e B H G q2 w2 (s1.trans s2) (u1.trans u2)
  | true =>
    replace q1 := q1.1 rfl
    rw [if_pos rfl]
    exact k true e B H G q1 w1 s1 u1⟩
theorem snd_not (h : SndT m K tt dt) : SndT m K (tNot tt) (dNot dt) := ⟨fun w q k => h.run w q fun b e B H G q1 w1 s1 u1 => k (!b) e B H G q1 w1 s1 u1⟩
theorem dt_val (h : DE m X a te de) (he : ∀ whole, isTrue a X.env whole = (do let v ← whole; standAt a.pos; holding [v] (truthy v)) := by intro _; rfl) : DT m X a (tB te) (dB de) := ⟨pt_val h.pe he, snd_B h.sd⟩
theorem dt_tru (h : DE m X a te de) (he : ∀ whole, isTrue a X.env whole = (do let v ← whole; standAt a.pos; holding [v] (truthy v)) := by intro _; rfl) : DT m X a (fun σ H Q => te σ H fun x H' => ∃ k, TruV X.K x H' k ∧ Q k H') (dTru de) := ⟨pt_truth h.pe he, snd_tru h.sd⟩
theorem dt_cmp {op : CmpOp} {r : R2} {rd : P → P → (P → Prop) → Prop} (ho : OpR X (compareOp op) r) (hs : OpS X.K r rd) (ha : DE m X a ta da) (hb : DE m X b tb db) (hm : behindInMarks op b = false) :
    DT m X (.Compare a [op] [b] pos) (tTest (tOp r ta tb)) (dB (dOp rd da db)) := ⟨pt_cmpR ho ha.pe hb.pe hm, snd_test (snd_op hs ha.sd hb.sd)⟩
theorem de_cmp {op : CmpOp} {r : R2} {rd : P → P → (P → Prop) → Prop} (ho : OpR X (compareOp op) r) (hs : OpS X.K r rd) (ha : DE m X a ta da) (hb : DE m X b tb db) (hm : behindInMarks op b = false) :
    DE m X (.Compare a [op] [b] pos) (tOp r ta tb) (dOp rd da db) := ⟨pe_cmpR ho ha.pe hb.pe hm, snd_op hs ha.sd hb.sd⟩
theorem de_op {op : Operator} {r : R2} {rd : P → P → (P → Prop) → Prop} (ho : OpR X (binaryOp op) r) (hs : OpS X.K r rd) (ha : DE m X a ta da) (hb : DE m X b tb db) :
    DE m X (.BinOp a op b pos) (tOp r ta tb) (dOp rd da db) := ⟨pe_op ho ha.pe hb.pe, snd_op hs ha.sd hb.sd⟩
theorem do_op {op : Operator} {r : R2} {rd : P → P → (D → Prop) → Prop} (ho : OpR X (binaryOp op) r) (hs : OpO X.K r rd) (ha : DE m X a ta da) (hb : DE m X b tb db) :
    DO m X (.BinOp a op b pos) (tOp r ta tb) (dOpO rd da db) := ⟨pe_op ho ha.pe hb.pe, snd_opO hs ha.sd hb.sd⟩
theorem de_un {op : UnaryOp} {r : V → Hp → VK → Prop} {rd : P → (P → Prop) → Prop} (ho : UnR X (unaryOp op) r) (hs : UnS X.K r rd) (ha : DE m X a ta da) : DE m X (.UnaryOp op a pos) (tUn r ta) (dUn rd da) := ⟨pe_un ho ha.pe, snd_un hs ha.sd⟩
theorem de_ix {r : R2} {rd : P → P → (P → Prop) → Prop} (ho : IxR X r) (hs : OpS X.K r rd) (ha : DE m X a ta da) (hb : DE m X b tb db) (hp : PlainIx b := by intro _ _; rfl) :
    DE m X (.Subscript a b pos) (tOp r ta tb) (dOp rd da db) := ⟨pe_ix ho ha.pe hb.pe hp, snd_op hs ha.sd hb.sd⟩
variable {rest : List Expr} {tA tB' : TT} {dA' dB' : dT}
theorem dw_and1 (h : DT m X a tA dA') : DW m X (.BoolOp .And [a] pos) tA dA' := ⟨pw_and1 h.pe, h.sd⟩
theorem dw_or1 (h : DT m X a tA dA') : DW m X (.BoolOp .Or [a] pos) tA dA' := ⟨pw_or1 h.pe, h.sd⟩
theorem dw_and (h : DT m X a tA dA') (g : DW m X (.BoolOp .And (b :: rest) pos) tB' dB') : DW m X (.BoolOp .And (a :: b :: rest) pos) (tAnd tA tB') (dAnd dA' dB') := ⟨pw_and h.pe g.pe, snd_and h.sd g.sd⟩
theorem dw_or (h : DT m X a tA dA') (g : DW m X (.BoolOp .Or (b :: rest) pos) tB' dB') : DW m X (.BoolOp .Or (a :: b :: rest) pos) (tOr tA tB') (dOr dA' dB') := ⟨pw_or h.pe g.pe, snd_or h.sd g.sd⟩
theorem DW.pt (h : DW m X a tA dA') : DT m X a tA dA' := ⟨h.pe.pt, h.sd⟩
theorem dt_not (h : DT m X a tA dA') : DT m X (.UnaryOp .Not a pos) (tNot tA) (dNot dA') := ⟨pt_not h.pe, snd_not h.sd⟩
/-! ### and, or, not as values (bools) -/
def dAndV (da db : dE) : dE := fun env Q => da env fun p e => match p with
  | .bl c => cnd c (db e Q) (Q (.bl false) e)
  | _ => False
def dOrV (da db : dE) : dE := fun env Q => da env fun p e => match p with
  | .bl c => cnd c (Q (.bl true) e) (db e Q)
  | _ => False
def dNotV (da : dE) : dE := fun env Q => da env fun p e => match p with
  | .bl c => Q (.bl (!c)) e
  | _ => False
theorem snd_andV (h : SndE m K ta da) (g : SndE m K tb db) : SndE m K (tAndV ta tb) (dAndV da db) := ⟨fun w q k => h.run w q fun p e v B H G q1 w1 r1 s1 u1 => by
  cases p with
  | bl c =>
    refine ⟨c, r1, ?_⟩
    cases c with
    | true =>
      replace q1 := q1.1 rfl
      rw [if_pos rfl]
      exact g.run w1 q1 fun b e v B H G q2 w2 r2 s2 u2 => k b e v B H G q2 w2 r2 (s1.trans s2) (u1.trans u2)
    | false =>
      replace q1 := q1.2 rfl
      rw [if_neg Bool.false_ne_true]
      exact k _ e _ B H G q1 w1 rfl s1 u1
  | _ => exact q1.elim⟩
theorem snd_orV (h : SndE m K ta da) (g : SndE m K tb db) : SndE m K (tOrV ta tb) (dOrV da db) := ⟨fun w q k => h.run w q fun p e v B H G q1 w1 r1 s1 u1 => by
  cases p with
  | bl c =>
    refine ⟨c, r1, ?_⟩
    cases c with
    | false =>
      replace q1 := q1.2 rfl
      rw [if_neg Bool.false_ne_true]
      exact g.run w1 q1 fun b e v B H G q2 w2 r2 s2 u2 => k b e v B H G q2 w2 r2 (s1.trans s2) (u1.trans u2)
    | true =>
      replace q1 := q1.1 rfl
      rw [if_pos rfl]
      exact k _ e _ B H G q1 w1 rfl s1 u1
  | _ => exact q1.elim⟩
theorem snd_notV (h : SndE m K ta da) : SndE m K (tNotV ta) (dNotV da) := ⟨fun w q k => h.run w q fun p e v B H G q1 w1 r1 s1 u1 => by
  cases p with
  | bl c => exact ⟨c, r1, k _ e _ B H G q1 w1 rfl s1 u1⟩
  | _ => exact q1.elim⟩
theorem de_one {op} (h : DE m X a ta da) : DE m X (.BoolOp op [a] pos) ta da := ⟨pe_one h.pe, h.sd⟩
theorem de_and (h : DE m X a ta da) (g : DE m X (.BoolOp .And (b :: rest) pos) tb db) : DE m X (.BoolOp .And (a :: b :: rest) pos) (tAndV ta tb) (dAndV da db) := ⟨pe_and h.pe g.pe, snd_andV h.sd g.sd⟩
theorem de_or (h : DE m X a ta da) (g : DE m X (.BoolOp .Or (b :: rest) pos) tb db) : DE m X (.BoolOp .Or (a :: b :: rest) pos) (tOrV ta tb) (dOrV da db) := ⟨pe_or h.pe g.pe, snd_orV h.sd g.sd⟩
theorem de_not (h : DE m X a ta da) : DE m X (.UnaryOp .Not a pos) (tNotV ta) (dNotV da) := ⟨pe_not h.pe, snd_notV h.sd⟩
def dIf (dt : dT) (da db : dE) : dE := fun env Q => dt env fun c e => cnd c (da e Q) (db e Q)
theorem snd_if (h : SndT m K tt dt) (ga : SndE m K ta da) (gb : SndE m K tb db) : SndE m K (tIf tt ta tb) (dIf dt da db) := ⟨fun w q k => h.run w q fun b e B H G q1 w1 s1 u1 => by
  cases b with
  | true =>
    replace q1 := q1.1 rfl
    rw [if_pos rfl]
    exact ga.run w1 q1 fun b e v B H G q2 w2 r2 s2 u2 => k b e v B H G q2 w2 r2 (s1.trans s2) (u1.trans u2)
  | false =>
    replace q1 := q1.2 rfl
    rw [if_neg Bool.false_ne_true]
    exact gb.run w1 q1 fun b e v B H G q2 w2 r2 s2 u2 => k b e v B H G q2 w2 r2 (s1.trans s2) (u1.trans u2)⟩
theorem de_ifExp (h : DT m X c tt dt) (ga : DE m X a ta da) (gb : DE m X b tb db) : DE m X (.IfExp c a b pos) (tIf tt ta tb) (dIf dt da db) := ⟨pe_ifExp h.pe ga.pe gb.pe, snd_if h.sd ga.sd gb.sd⟩
end

/-! ### argument lists -/
def dNil : dA := fun env Q => Q [] env
def dCons (de : dE) (dr : dA) : dA := fun env Q => de env fun p e => dr e fun as e2 => Q (.inl p :: as) e2
def dSlot (i : Nat) (dr : dA) : dA := fun env Q => match env[i]? with
  | some (some _) => dr env fun as e2 => Q (.inr i :: as) e2
  | _ => False
section
variable {m : Bool} {K : PySem.W.Frag} {te : TE} {de : dE} {ta : TA} {da : dA} {X : Cx} {a b c : Expr} {es : List Expr} {pos : Pos}
theorem snd_nil : SndA m K tNil dNil := ⟨fun {B H σ env G QD Q} w q k => k [] env [] B H G q w rfl .refl (.gr (.refl w.ex))⟩
theorem snd_cons (h : SndE m K te de) (g : SndA m K ta da) : SndA m K (tCons te ta) (dCons de da) := ⟨fun w q k => h.run w q fun p e v B H G q1 w1 r1 s1 u1 =>
  g.run w1 q1 fun as e2 vs B2 H2 G2 q2 w2 r2 s2 u2 => k _ e2 _ B2 H2 G2 q2 w2 ⟨v, vs, rfl, Rp.mono s2.ex p r1, r2⟩ (s1.trans s2) (u1.trans u2)⟩
theorem da_nil : DA m X [] tNil dNil := ⟨pa_nil, snd_nil⟩
theorem da_cons (h : DE m X a te de) (g : DA m X es ta da) (hs : starEach (a :: es) X.env = (false, eval a X.env) :: starEach es X.env := by rfl) : DA m X (a :: es) (tCons te ta) (dCons de da) := ⟨pa_cons h.pe g.pe hs, snd_cons h.sd g.sd⟩
theorem snd_slot {i : Nat} (g : SndA m K ta da) : SndA m K (tCons (tVar i) ta) (dSlot i da) := ⟨fun {B H σ env G QD Q} w q k => by
  unfold dSlot at q
  split at q
  · rename_i d hd
    obtain ⟨v, hv, _⟩ := w.sl i d hd
    exact ⟨v, hv, g.run w q fun as e2 vs B2 H2 G2 q2 w2 r2 s2 u2 => k _ e2 _ B2 H2 G2 q2 w2 ⟨v, vs, rfl, hv, r2⟩ s2 u2⟩
  · exact q.elim⟩
theorem da_slot {i : Nat} (h : PE X a (tVar i)) (g : DA m X es ta da) (hs : starEach (a :: es) X.env = (false, eval a X.env) :: starEach es X.env := by rfl) : DA m X (a :: es) (tCons (tVar i) ta) (dSlot i da) := ⟨pa_cons h g.pe hs, snd_slot g.sd⟩
end
end DL
set_option Elab.async false
set_option linter.all false
set_option maxRecDepth 100000
namespace DL
open PySem PySem.Spec L2
variable [Rf]
/-! ### a slot's own list becomes plain -/
def frzB (B H : Hp) (F : List Addr) : Hp := fun a => if a ∈ F then H a else B a
theorem frz_rp {K : PySem.W.Frag} {B H : Hp} {F : List Addr} (nb : ∀ a ∈ F, B a = none) : ∀ {d : D} {v : V}, RpD K B H d v F → Rp K (frzB B H F) d.frz v := by
  have e : Ex B (frzB B H F) := fun a o h => by
    unfold frzB
    rw [if_neg]
    · exact h
    · intro hm; rw [nb a hm] at h; cases h
  intro d v h
  cases d with
  | sh p => exact Rp.mono e p h.2
  | ol ps =>
    obtain ⟨a, vs, e1, e2, e3, e4⟩ := h
    refine ⟨a, vs, e2, ?_, RpA.mono e ps e4⟩
    unfold frzB
    rw [if_pos (by rw [e1]; exact List.mem_cons_self)]
    exact e3
  | oll pss =>
    obtain ⟨a, as, e1, e2, e3, e4, e5⟩ := h
    refine ⟨a, as.map V.ref, e2, ?_, ?_⟩
    · unfold frzB
      rw [if_pos (by rw [e1]; exact List.mem_cons_self)]
      exact e3
    · have hF : ∀ b ∈ as, b ∈ F := fun b hb => by rw [e1]; exact List.mem_cons_of_mem _ hb
      clear e1 e2 e3
      induction as generalizing pss with
      | nil =>
        cases pss with
        | nil => rfl
        | cons _ _ => simp at e4
      | cons b as ih =>
        cases pss with
        | nil => simp at e4
        | cons ps pss =>
          obtain ⟨vs, g1, g2⟩ := e5 0 b ps rfl rfl
          refine ⟨.ref b, as.map V.ref, rfl, ⟨b, vs, rfl, ?_, RpA.mono e ps g2⟩, ih pss (by simpa using e4) (fun i c qs h1 h2 => e5 (i + 1) c qs h1 h2) fun c hc => hF c (List.mem_cons_of_mem _ hc)⟩
          unfold frzB
          rw [if_pos (hF b List.mem_cons_self)]
          exact g1
  | oi C fs =>
    obtain ⟨a, dx, fv, e1, e2, e3, e4, e5⟩ := h
    refine ⟨a, dx, fv, e2, ?_, RpF.mono e fs e5⟩
    unfold frzB
    rw [if_pos (by rw [e1]; exact List.mem_cons_self)]
    exact e3
  | od kvs =>
    obtain ⟨a, us, e1, e2, e3, e4⟩ := h
    refine ⟨a, us, e2, ?_, RpK.mono e kvs e4⟩
    unfold frzB
    rw [if_pos (by rw [e1]; exact List.mem_cons_self)]
    exact e3
theorem frz_gr {B H : Hp} {F : List Addr} (ex : Ex B H) (nb : ∀ a ∈ F, B a = none) : Ex B (frzB B H F) ∧ Ex (frzB B H F) H := by
  refine ⟨fun a o h => ?_, fun a o h => ?_⟩
  · unfold frzB
    rw [if_neg]
    · exact h
    · intro hm; rw [nb a hm] at h; cases h
  · unfold frzB at h
    split at h
    · exact h
    · exact ex a o h
/-- objects that belong to no slot become plain -/
theorem Wd.frzO {K : PySem.W.Frag} {B H : Hp} {σ : L2.St} {env : Env} {G : Fp} {F : List Addr} (w : Wd K B H σ env G) (nb : ∀ a ∈ F, B a = none) (ap : ∀ a ∈ F, ∀ i, a ∉ G i) : Wd K (frzB B H F) H σ env G where
  rf := w.rf.trans (frz_gr w.ex nb).1
  ex := (frz_gr w.ex nb).2
  sl := fun i d e => by
    obtain ⟨v, h1, h2⟩ := w.sl i d e
    exact ⟨v, h1, RpD.mono (frz_gr w.ex nb).1 h2 fun _ _ _ h => h⟩
  no := w.no
  nd := w.nd
  dj := w.dj
  nb := fun i a h => by
    unfold frzB
    rw [if_neg fun hm => ap a hm i h]
    exact w.nb i a h
  len := w.len
section
variable {m : Bool} {K : PySem.W.Frag} {te : TE} {de : dE} {dq : dO} {ta : TA} {da : dA} {X : Cx} {a b c e : Expr} {es : List Expr} {pos : Pos}
def dFrz (dq : dO) : dE := fun env Q => dq env fun d e => Q d.frz e
theorem snd_frz (h : SndO m K te dq) : SndE m K te (dFrz dq) := ⟨fun {B H σ env G QD Q} w q k => h.run w q fun d e v F B1 H1 G1 q1 w1 o1 s1 u1 => by
  have st : Stp B H G (frzB B1 H1 F) H1 G1 := ⟨s1.ex.trans (frz_gr w1.ex o1.nb).1, s1.kp, s1.fp, fun a o h n hg => by
    unfold frzB
    rw [if_neg fun hm => by
      rcases o1.nw a hm with ⟨j, hj⟩ | hn
      · exact hg j hj
      · rw [hn] at h; cases h]
    exact s1.bs a o h n hg, s1.th⟩
  refine k d.frz e v (frzB B1 H1 F) H1 G1 q1 (w1.frzO o1.nb o1.ap) (frz_rp o1.nb o1.rp) st fun hm => ?_
  obtain ⟨e1, e2, g⟩ := u1 hm
  refine ⟨e1, e2, ⟨g.b.trans (frz_gr w1.ex o1.nb).1, g.h, (frz_gr w1.ex o1.nb).2, fun a o h n => ?_⟩⟩
  unfold frzB
  rw [if_neg fun hm => by
    rcases o1.nw a hm with ⟨j, hj⟩ | hn
    · exact o1.ap a hm j (by rw [e2]; exact hj)
    · rw [hn] at h; cases h]
  exact g.n a o h n⟩
theorem de_o (h : DO m X a te dq) : DE m X a te (dFrz dq) := ⟨h.pe, snd_frz h.sd⟩
def dSh (de : dE) : dO := fun env Q => de env fun p e => Q (.sh p) e
theorem snd_sh (h : SndE m K te de) : SndO m K te (dSh de) := ⟨fun w q k => h.run w q fun p e v B H G q1 w1 r1 s1 u1 =>
  k _ e v [] B H G q1 w1 ⟨⟨rfl, r1⟩, List.nodup_nil, fun _ h => absurd h List.not_mem_nil, fun _ h => absurd h List.not_mem_nil, fun _ h => absurd h List.not_mem_nil⟩ s1 u1⟩
theorem do_e (h : DE m X a te de) : DO m X a te (dSh de) := ⟨h.pe, snd_sh h.sd⟩
/-- a name that holds an own list, read as plain: from then on it is plain -/
def dVarF (i : Nat) : dE := fun env Q => match env[i]? with
  | some (some d) => Q d.frz (env.set i (some (.sh d.frz)))
  | _ => False
theorem set_some {α : Type} {l : List α} {i j : Nat} {x y : α} (h : (l.set i x)[j]? = some y) : (i = j ∧ x = y ∧ i < l.length) ∨ (i ≠ j ∧ l[j]? = some y) := by
  by_cases e : i = j
  · subst e
    by_cases hi : i < l.length
    · rw [List.getElem?_set_self hi] at h
      exact .inl ⟨rfl, Option.some.inj h, hi⟩
    · rw [List.getElem?_eq_none (by simpa using hi)] at h; cases h
  · rw [List.getElem?_set_ne e] at h
    exact .inr ⟨e, h⟩
/-- the slot i is given a value -/
theorem Wd.put {B H : Hp} {σ : L2.St} {env : Env} {G : Fp} {i : Nat} {d : D} {v : V} {F : List Addr} (w : Wd K B H σ env G) (hi : i < env.length) (r : RpD K B H d v F) (nd : F.Nodup) (nb : ∀ a ∈ F, B a = none) (ap : ∀ a ∈ F, ∀ j, j ≠ i → a ∉ G j) :
    Wd K B H (σ.set i (some v)) (env.set i (some d)) (fun j => if j = i then F else G j) where
  rf := w.rf
  ex := w.ex
  sl := fun j d' e => by
    rcases set_some e with ⟨rfl, e2, _⟩ | ⟨n, e⟩
    · cases e2
      refine ⟨v, List.getElem?_set_self (by rw [← w.len]; exact hi), ?_⟩
      rw [if_pos rfl]; exact r
    · obtain ⟨v', h1, h2⟩ := w.sl j d' e
      refine ⟨v', by rw [List.getElem?_set_ne n]; exact h1, ?_⟩
      rw [if_neg fun q => n q.symm]; exact h2
  no := fun j h => by
    by_cases e : j = i
    · subst e
      exact absurd (List.getElem?_set_self hi) (h d)
    · show (if j = i then F else G j) = []
      rw [if_neg e]
      refine w.no j fun d' => ?_
      have := h d'
      rw [List.getElem?_set_ne fun q => e q.symm] at this
      exact this
  nd := fun j => by
    show (if j = i then F else G j).Nodup
    split
    · exact nd
    · exact w.nd j
  dj := fun j k a h1 h2 => by
    change a ∈ (if j = i then F else G j) at h1
    change a ∈ (if k = i then F else G k) at h2
    split at h1 <;> split at h2
    · rename_i e1 e2; rw [e1, e2]
    · rename_i e1 e2; exact absurd h2 (ap a h1 k e2)
    · rename_i e1 e2; exact absurd h1 (ap a h2 j e1)
    · exact w.dj j k a h1 h2
  nb := fun j a h => by
    change a ∈ (if j = i then F else G j) at h
    split at h
    · exact nb a h
    · exact w.nb j a h
  len := by rw [List.length_set, List.length_set]; exact w.len
theorem env_lt {env : Env} {i : Nat} {d : D} (e : env[i]? = some (some d)) : i < env.length := (List.getElem?_eq_some_iff.mp e).1
theorem set_id {α : Type} {l : List α} {i : Nat} {x : α} (h : l[i]? = some x) : l.set i x = l := by
  apply List.ext_getElem?
  intro j
  by_cases e : i = j
  · subst e
    rw [List.getElem?_set_self (List.getElem?_eq_some_iff.mp h).1, h]
  · rw [List.getElem?_set_ne e]
theorem snd_varF {i : Nat} : SndE false K (tVar i) (dVarF i) := ⟨fun {B H σ env G QD Q} w h k => by
  unfold dVarF at h
  split at h
  · rename_i d e
    obtain ⟨v, h1, h2⟩ := w.sl i _ e
    have nb : ∀ a ∈ G i, B a = none := fun a ha => w.nb i a ha
    have fg := frz_gr w.ex nb
    have wz : Wd K (frzB B H (G i)) H σ (env.set i none) (fun j => if j = i then [] else G j) := by
      refine ⟨⟨fg.2, fun j d' e' => ?_, fun j hn => ?_, fun j => ?_, fun j l a ha hb => ?_, fun j a ha => ?_, by rw [List.length_set]; exact w.len⟩, w.rf.trans fg.1⟩
      · rcases set_some e' with ⟨_, e2, _⟩ | ⟨n, e'⟩
        · cases e2
        · obtain ⟨v', g1, g2⟩ := w.sl j d' e'
          refine ⟨v', g1, ?_⟩
          rw [if_neg fun q => n q.symm]
          exact RpD.mono fg.1 g2 fun _ _ _ h => h
      · show (if j = i then [] else G j) = []
        split
        · rfl
        · rename_i n
          refine w.no j fun d' => ?_
          have := hn d'
          rw [List.getElem?_set_ne fun q => n q.symm] at this
          exact this
      · show (if j = i then [] else G j).Nodup
        split
        · exact List.nodup_nil
        · exact w.nd j
      · change a ∈ (if j = i then [] else G j) at ha
        change a ∈ (if l = i then [] else G l) at hb
        split at ha
        · cases ha
        · split at hb
          · cases hb
          · exact w.dj j l a ha hb
      · change a ∈ (if j = i then [] else G j) at ha
        split at ha
        · cases ha
        · rename_i n
          unfold frzB
          rw [if_neg fun hm => n (w.dj j i a ha hm)]
          exact w.nb j a ha
    have w2 := wz.put (i := i) (d := .sh d.frz) (v := v) (F := []) (by rw [List.length_set]; exact env_lt e) ⟨rfl, frz_rp nb h2⟩ List.nodup_nil (fun _ h => absurd h List.not_mem_nil) (fun _ h => absurd h List.not_mem_nil)
    rw [set_id h1, List.set_set] at w2
    refine ⟨v, h1, k _ _ v _ H _ h w2 (frz_rp nb h2) ⟨fg.1, fun a o h _ => h, fun j a ha => ?_, fun a o ho n hg => ?_, fun a o ho => ⟨o, ho⟩⟩ .off⟩
    · change a ∈ (if j = i then [] else if j = i then [] else G j) at ha
      split at ha
      · cases ha
      · exact .inl ⟨j, ha⟩
    · unfold frzB
      rw [if_neg (hg i)]
      exact n
  · exact h.elim⟩
theorem de_vF (i : Nat) (h : PE X a (tVar i)) : DE false X a (tVar i) (dVarF i) := ⟨h, snd_varF⟩

/-! ### displays -/
def prs : List AR → Option (List P)
  | [] => some []
  | .inl p :: as => (prs as).map (p :: ·)
  | .inr _ :: _ => none
theorem RpX.all {B : Hp} {σ : L2.St} : ∀ {as : List AR} {vs : List V} {ps : List P}, RpX K B σ as vs → prs as = some ps → RpA K B ps vs
  | [], _, _, h, e => by cases Option.some.inj e; exact h
  | .inl p :: as, _, ps, ⟨v, r, e1, e2, e3⟩, e => by
    unfold prs at e
    cases h : prs as with
    | none => rw [h] at e; cases e
    | some qs =>
      rw [h] at e
      cases Option.some.inj e
      exact ⟨v, r, e1, e2, RpX.all e3 h⟩
  | .inr i :: as, _, ps, _, e => by cases e
def dLst (da : dA) : dO := fun env Q => da env fun as e => match prs as with
  | some ps => ps.length ≤ sizeLine ∧ Q (.ol ps) e
  | none => False
def dTup (da : dA) : dE := fun env Q => da env fun as e => match prs as with
  | some ps => ps.length ≤ sizeLine ∧ Q (.tup ps) e
  | none => False
theorem own_new {B H : Hp} {σ : L2.St} {env : Env} {G : Fp} {p : Addr} {vs : List V} {ps : List P} {H0 : Hp} {G0 : Fp} (w : Wd K B H σ env G) (h : H p = none) (h0 : H0 p = none) (r : RpA K B ps vs) :
    Wd K B (upd H p (.lst vs)) σ env G ∧ Own K H0 G0 B (upd H p (.lst vs)) G (.ol ps) (.ref p) [p] ∧ Gr B H B (upd H p (.lst vs)) := by
  have g : Gr B H B (upd H p (.lst vs)) := ⟨Ex.refl _, fun a u k => by rw [upd_ne (ne_of_none k h)]; exact k, fun a u k => by rw [upd_ne (ne_of_none (w.ex a u k) h)]; exact w.ex a u k, fun a u k n => n⟩
  refine ⟨w.gr g, ⟨⟨p, vs, rfl, rfl, upd_same, r⟩, by simp, fun a ha => ?_, fun a ha => ?_, fun a ha i hi => ?_⟩, g⟩
  · rw [List.mem_singleton.mp ha]; exact w.ex.back h
  · rw [List.mem_singleton.mp ha]; exact .inr h0
  · rw [List.mem_singleton.mp ha] at hi; exact w.off h i hi
theorem snd_lst (h : SndA m K ta da) : SndO m K (tLst ta) (dLst da) := ⟨fun {B H σ env G QD Q} w q k => h.run w q fun as e vs B1 H1 G1 q1 w1 r1 s1 u1 => by
  change (match prs as with | some ps => ps.length ≤ sizeLine ∧ QD (.ol ps) e | none => False) at q1
  split at q1
  · rename_i ps hp
    have ra := r1.all hp
    refine ⟨by rw [ra.length]; exact q1.1, fun p hn => ?_⟩
    obtain ⟨w2, o2, g2⟩ := own_new w1 hn (s1.back hn) ra
    exact k _ e _ [p] B1 _ G1 q1.2 w2 o2 (s1.trans g2.stp) (u1.trans (.gr g2))
  · exact q1.elim⟩
theorem snd_tup (h : SndA m K ta da) : SndE m K (tTup ta) (dTup da) := ⟨fun {B H σ env G QD Q} w q k => h.run w q fun as e vs B1 H1 G1 q1 w1 r1 s1 u1 => by
  change (match prs as with | some ps => ps.length ≤ sizeLine ∧ QD (.tup ps) e | none => False) at q1
  split at q1
  · rename_i ps hp
    have ra := r1.all hp
    refine ⟨by rw [ra.length]; exact q1.1, fun p hn => ?_⟩
    have g2 := gr_new (o := .tup vs) w1.ex hn
    exact k _ e _ _ _ G1 q1.2 (w1.gr g2) ⟨p, vs, rfl, SqT.of upd_same, RpA.mono g2.b ps ra⟩ (s1.trans g2.stp) (u1.trans (.gr g2))
  · exact q1.elim⟩
theorem do_lst (h : DA m X es ta da) : DO m X (.List es pos) (tLst ta) (dLst da) := ⟨pe_lst h.pe, snd_lst h.sd⟩
theorem de_tup {x1} (h : DA m X es ta da) : DE m X (.Tuple es x1 pos) (tTup ta) (dTup da) := ⟨pe_tup h.pe, snd_tup h.sd⟩

/-! ### built-ins -/
structure CbS (K : PySem.W.Frag) (r : List V → Hp → VK → Prop) (rd : List P → (P → Prop) → Prop) : Prop where
  run : ∀ {B H : Hp} {xs : List V} {ps : List P} {QD : P → Prop} {Q : VK}, Ex B H → RpA K B ps xs → rd ps QD →
    (∀ z B' H' pz, QD pz → Rp K B' pz z → Gr B H B' H' → Q z H') → r xs H Q
structure CbO (K : PySem.W.Frag) (r : List V → Hp → VK → Prop) (rd : List P → (List P → Prop) → Prop) : Prop where
  run : ∀ {B H : Hp} {xs : List V} {ps : List P} {QD : List P → Prop} {Q : VK}, Ex B H → RpA K B ps xs → rd ps QD →
    (∀ l ys zs, QD zs → RpA K B zs ys → H l = none → Q (.ref l) (upd H l (.lst ys))) → r xs H Q
def dCb (rd : List P → (P → Prop) → Prop) (da : dA) : dE := fun env Q => da env fun as e => match prs as with
  | some ps => rd ps fun p => Q p e
  | none => False
def dCbO (rd : List P → (List P → Prop) → Prop) (da : dA) : dO := fun env Q => da env fun as e => match prs as with
  | some ps => rd ps fun p => Q (.ol p) e
  | none => False
theorem snd_cb {r : List V → Hp → VK → Prop} {rd : List P → (P → Prop) → Prop} (hs : CbS K r rd) (h : SndA m K ta da) : SndE m K (tCB r ta) (dCb rd da) := ⟨fun {B H σ env G QD Q} w q k => h.run w q fun as e vs B1 H1 G1 q1 w1 r1 s1 u1 => by
  change (match prs as with | some ps => rd ps fun p => QD p e | none => False) at q1
  split at q1
  · rename_i ps hp
    exact hs.run w1.ex (r1.all hp) q1 fun z B2 H2 pz q2 r2 g2 => k pz e z B2 H2 G1 q2 (w1.gr g2) r2 (s1.trans g2.stp) (u1.trans (.gr g2))
  · exact q1.elim⟩
theorem snd_cbO {r : List V → Hp → VK → Prop} {rd : List P → (List P → Prop) → Prop} (hs : CbO K r rd) (h : SndA m K ta da) : SndO m K (tCB r ta) (dCbO rd da) := ⟨fun {B H σ env G QD Q} w q k => h.run w q fun as e vs B1 H1 G1 q1 w1 r1 s1 u1 => by
  change (match prs as with | some ps => rd ps fun p => QD (.ol p) e | none => False) at q1
  split at q1
  · rename_i ps hp
    exact hs.run w1.ex (r1.all hp) q1 fun l ys zs q2 r2 hn => by
      obtain ⟨w2, o2, g2⟩ := own_new w1 hn (s1.back hn) r2
      exact k _ e _ [l] B1 _ G1 q2 w2 o2 (s1.trans g2.stp) (u1.trans (.gr g2))
  · exact q1.elim⟩
theorem de_cb {r : List V → Hp → VK → Prop} {rd : List P → (P → Prop) → Prop} {e0 : Expr} (h : PA X (e0 :: es) ta → PE X a (tCB r ta)) (hs : CbS X.K r rd) (ha : DA m X (e0 :: es) ta da) : DE m X a (tCB r ta) (dCb rd da) := ⟨h ha.pe, snd_cb hs ha.sd⟩
theorem do_cb {r : List V → Hp → VK → Prop} {rd : List P → (List P → Prop) → Prop} {e0 : Expr} (h : PA X (e0 :: es) ta → PE X a (tCB r ta)) (hs : CbO X.K r rd) (ha : DA m X (e0 :: es) ta da) : DO m X a (tCB r ta) (dCbO rd da) := ⟨h ha.pe, snd_cbO hs ha.sd⟩
end
end DL
set_option Elab.async false
set_option linter.all false
set_option maxRecDepth 100000
namespace DL
open PySem PySem.Spec L2
variable [Rf]
/-- the slot is there -/
def inE : Nat → Env → Bool
  | _, [] => false
  | 0, _ :: _ => true
  | i + 1, _ :: e => inE i e
theorem inE_lt : ∀ {i : Nat} {e : Env}, inE i e = true → i < e.length
  | 0, [], h => by simp [inE] at h
  | _ + 1, [], h => by simp [inE] at h
  | 0, _ :: e, _ => Nat.succ_pos _
  | i + 1, _ :: e, h => Nat.succ_lt_succ (inE_lt (i := i) (e := e) h)
structure dEnds where
  nx : Env → Prop
  rt : D → Env → Prop
  bk : Env → Prop := fun _ => False
  ct : Env → Prop := fun _ => False
abbrev dS := dEnds → Env → Prop
/-- the slots of pn keep their values -/
def Pin (pn : List Nat) (σ σ' : L2.St) : Prop := σ'.length = σ.length ∧ ∀ i ∈ pn, σ'[i]? = σ[i]?
theorem Pin.refl {pn : List Nat} {σ : L2.St} : Pin pn σ σ := ⟨rfl, fun _ _ => rfl⟩
theorem Pin.trans {pn : List Nat} {σ σ1 σ2 : L2.St} (a : Pin pn σ σ1) (b : Pin pn σ1 σ2) : Pin pn σ σ2 := ⟨b.1.trans a.1, fun i h => (b.2 i h).trans (a.2 i h)⟩
theorem Pin.set {pn : List Nat} {σ : L2.St} {i : Nat} {x : Option V} (h : i ∉ pn) : Pin pn σ (σ.set i x) := ⟨List.length_set, fun j hj => List.getElem?_set_ne fun e => h (by rw [e]; exact hj)⟩
/-- what is shown of the place behind: from the world at the start -/
def Nx (K : PySem.W.Frag) (pn : List Nat) (B H : Hp) (G : Fp) (σ : L2.St) (nd : Env → Prop) (n : L2.St → Hp → Prop) : Prop :=
  ∀ env' σ' B' H' G', nd env' → Wd K B' H' σ' env' G' → Stp B H G B' H' G' → Pin pn σ σ' → n σ' H'
def Rt (K : PySem.W.Frag) (pn : List Nat) (B H : Hp) (G : Fp) (σ : L2.St) (rd : D → Env → Prop) (r : VK) : Prop :=
  ∀ d env' σ' v F B' H' G', rd d env' → Wd K B' H' σ' env' G' → Own K H G B' H' G' d v F → Stp B H G B' H' G' → Pin pn σ σ' → r v H'
theorem Nx.at {K : PySem.W.Frag} {pn : List Nat} {B H B1 H1 : Hp} {G G1 : Fp} {σ σ1 : L2.St} {nd : Env → Prop} {n : L2.St → Hp → Prop} (h : Nx K pn B H G σ nd n) (s : Stp B H G B1 H1 G1) (p : Pin pn σ σ1) : Nx K pn B1 H1 G1 σ1 nd n :=
  fun env' σ' B' H' G' q w s2 p2 => h env' σ' B' H' G' q w (s.trans s2) (p.trans p2)
theorem Rt.at {K : PySem.W.Frag} {pn : List Nat} {B H B1 H1 : Hp} {G G1 : Fp} {σ σ1 : L2.St} {rd : D → Env → Prop} {r : VK} (h : Rt K pn B H G σ rd r) (s : Stp B H G B1 H1 G1) (p : Pin pn σ σ1) : Rt K pn B1 H1 G1 σ1 rd r :=
  fun d env' σ' v F B' H' G' q w o s2 p2 => h d env' σ' v F B' H' G' q w ⟨o.rp, o.nd, o.nb, fun a ha => (o.nw a ha).elim (fun ⟨j, hj⟩ => s.fp j a hj) (fun hn => .inr (s.back hn)), o.ap⟩ (s.trans s2) (p.trans p2)
structure SndS (pn : List Nat) (K : PySem.W.Frag) (ts : TS) (ds : dS) : Prop where
  run : ∀ {B H : Hp} {σ : L2.St} {env : Env} {G : Fp} {Dd : dEnds} {D : Ends}, Wd K B H σ env G → ds Dd env →
    Nx K pn B H G σ Dd.nx D.nx → Rt K pn B H G σ Dd.rt D.rt → Nx K pn B H G σ Dd.bk D.bk → Nx K pn B H G σ Dd.ct D.ct → ts D σ H
structure DS (pn : List Nat) (X : Cx) (st : Stmt) (ts : TS) (ds : dS) : Prop where
  pe : PS X st ts
  sd : SndS pn X.K ts ds
structure DSs (pn : List Nat) (X : Cx) (st : List Stmt) (ts : TS) (ds : dS) : Prop where
  pe : PSs X st ts
  sd : SndS pn X.K ts ds
def dNext : dS := fun Dd env => Dd.nx env
def dSeq (a b : dS) : dS := fun Dd env => a { Dd with nx := b Dd } env
def dBreak : dS := fun Dd env => Dd.bk env
def dCont : dS := fun Dd env => Dd.ct env
section
variable {pn : List Nat} {m : Bool} {K : PySem.W.Frag} {te ta tb : TE} {de da db : dE} {dq : dO} {tt : TT} {dt : dT} {t u : TS} {dt1 du : dS} {X : Cx} {a b c e : Expr} {st : Stmt} {rest sb : List Stmt} {pos : Pos}
theorem dss_nil : DSs pn X [] tNext dNext := ⟨pss_nil, ⟨fun {B H σ env G Dd D} w q n r k1 k2 => n env σ B H G q w .refl .refl⟩⟩
theorem snd_seq (h : SndS pn K t dt1) (g : SndS pn K u du) : SndS pn K (tSeq t u) (dSeq dt1 du) := ⟨fun {B H σ env G Dd D} w q n r k1 k2 =>
  h.run (D := { D with nx := u D }) w q (fun env' σ' B' H' G' q1 w1 s1 p1 => g.run w1 q1 (n.at s1 p1) (r.at s1 p1) (k1.at s1 p1) (k2.at s1 p1)) r k1 k2⟩
theorem dss_cons (h : DS pn X st t dt1) (g : DSs pn X rest u du) : DSs pn X (st :: rest) (tSeq t u) (dSeq dt1 du) := ⟨pss_cons h.pe g.pe, snd_seq h.sd g.sd⟩
theorem dss_one (h : DS pn X st t dt1) : DSs pn X [st] t dt1 := ⟨pss_one h.pe, h.sd⟩
theorem ds_pass : DS pn X (.Pass pos) tNext dNext := ⟨ps_pass, ⟨fun {B H σ env G Dd D} w q n r k1 k2 => n env σ B H G q w .refl .refl⟩⟩
theorem ds_break : DS pn X (.Break pos) tBreak dBreak := ⟨ps_break, ⟨fun {B H σ env G Dd D} w q n r k1 k2 => k1 env σ B H G q w .refl .refl⟩⟩
theorem ds_continue : DS pn X (.Continue pos) tCont dCont := ⟨ps_continue, ⟨fun {B H σ env G Dd D} w q n r k1 k2 => k2 env σ B H G q w .refl .refl⟩⟩
/-- an expression whose value is dropped -/
def dDrop (de : dE) : dS := fun Dd env => de env fun _ e => Dd.nx e
theorem snd_drop (h : SndE m K te de) : SndS pn K (tDrop te) (dDrop de) := ⟨fun {B H σ env G Dd D} w q n r k1 k2 => h.run w q fun p env' v B' H' G' q1 w1 r1 s1 _ => n env' σ B' H' G' q1 w1 s1 .refl⟩
theorem ds_drop (h : DE false X e te de) (hs : swapsWith e none pos.line X.env = pure false := by rfl) : DS pn X (.Expr e pos) (tDrop te) (dDrop de) := ⟨ps_expr h.pe hs, snd_drop h.sd⟩
def dRet (dq : dO) : dS := fun Dd env => dq env Dd.rt
theorem snd_ret (h : SndO m K te dq) : SndS pn K (tRet te) (dRet dq) := ⟨fun {B H σ env G Dd D} w q n r k1 k2 => h.run w q fun d env' v F B' H' G' q1 w1 o1 s1 _ => r d env' σ v F B' H' G' q1 w1 o1 s1 .refl⟩
theorem ds_retO (h : DO false X e te dq) : DS pn X (.Return (some e) pos) (tRet te) (dRet dq) := ⟨ps_ret h.pe, snd_ret h.sd⟩
theorem ds_ret (h : DE false X e te de) : DS pn X (.Return (some e) pos) (tRet te) (dRet (dSh de)) := ⟨ps_ret h.pe, snd_ret (snd_sh h.sd)⟩
def dRetN : dS := fun Dd env => Dd.rt (.sh .non) env
theorem ds_retN : DS pn X (.Return none pos) tRetN dRetN := ⟨ps_retN, ⟨fun {B H σ env G Dd D} w q n r k1 k2 => r _ env σ .non [] B H G q w ⟨⟨rfl, rfl⟩, List.nodup_nil, fun _ h => absurd h List.not_mem_nil, fun _ h => absurd h List.not_mem_nil, fun _ h => absurd h List.not_mem_nil⟩ .refl .refl⟩⟩
def dIfS (dt : dT) (a b : dS) : dS := fun Dd env => dt env fun c e => cnd c (a Dd e) (b Dd e)
theorem snd_ifS (h : SndT m K tt dt) (g : SndS pn K t dt1) (f : SndS pn K u du) : SndS pn K (tIfS tt t u) (dIfS dt dt1 du) := ⟨fun {B H σ env G Dd D} w q n r k1 k2 => h.run w q fun b env' B' H' G' q1 w1 s1 _ => by
  cases b with
  | true =>
    replace q1 := q1.1 rfl
    rw [if_pos rfl]
    exact g.run w1 q1 (n.at s1 .refl) (r.at s1 .refl) (k1.at s1 .refl) (k2.at s1 .refl)
  | false =>
    replace q1 := q1.2 rfl
    rw [if_neg Bool.false_ne_true]
    exact f.run w1 q1 (n.at s1 .refl) (r.at s1 .refl) (k1.at s1 .refl) (k2.at s1 .refl)⟩
theorem ds_if (h : DT false X c tt dt) (g : DSs pn X rest t dt1) (f : DSs pn X sb u du) : DS pn X (.If c rest sb pos) (tIfS tt t u) (dIfS dt dt1 du) := ⟨ps_if h.pe g.pe f.pe, snd_ifS h.sd g.sd f.sd⟩

/-! ### targets -/
abbrev dG := P → Env → (Env → Prop) → Prop
def NxG (K : PySem.W.Frag) (pn : List Nat) (B H : Hp) (G : Fp) (σ : L2.St) (nd : Env → Prop) (n : L2.St → Hp → Prop) : Prop :=
  ∀ env' σ' G', nd env' → Wd K B H σ' env' G' → (∀ i a, a ∈ G' i → ∃ j, a ∈ G j) → Pin pn σ σ' → n σ' H
theorem stp_g {B H : Hp} {G G' : Fp} (h : ∀ i a, a ∈ G' i → ∃ j, a ∈ G j) : Stp B H G B H G' := ⟨Ex.refl _, fun _ _ h _ => h, fun i a k => .inl (h i a k), fun _ _ _ h _ => h, fun a o h => ⟨o, h⟩⟩
theorem Nx.g {pn : List Nat} {K : PySem.W.Frag} {B H : Hp} {G : Fp} {σ : L2.St} {nd : Env → Prop} {n : L2.St → Hp → Prop} (h : Nx K pn B H G σ nd n) : NxG K pn B H G σ nd n :=
  fun env' σ' G' q w g p => h env' σ' B H G' q w (stp_g g) p
structure SndG (pn : List Nat) (K : PySem.W.Frag) (g : TG) (dg : dG) : Prop where
  run : ∀ {B H : Hp} {σ : L2.St} {env : Env} {G : Fp} {p : P} {v : V} {QD : Env → Prop} {Q : L2.St → Hp → Prop}, Wd K B H σ env G → Rp K B p v → dg p env QD → NxG K pn B H G σ QD Q → g v σ H Q
structure DG (pn : List Nat) (X : Cx) (tg : Expr) (g : TG) (dg : dG) : Prop where
  pe : PG X tg g
  sd : SndG pn X.K g dg
def dgName (i : Nat) : dG := fun p env Q => inE i env = true ∧ Q (env.set i (some (.sh p)))
theorem Wd.putS {B H : Hp} {σ : L2.St} {env : Env} {G : Fp} {i : Nat} {p : P} {v : V} (w : Wd K B H σ env G) (hi : i < env.length) (r : Rp K B p v) :
    Wd K B H (σ.set i (some v)) (env.set i (some (.sh p))) (fun j => if j = i then [] else G j) :=
  w.put hi ⟨rfl, r⟩ List.nodup_nil (fun _ h => absurd h List.not_mem_nil) fun _ h => absurd h List.not_mem_nil
theorem stp_put {B H : Hp} {G : Fp} {i : Nat} {F : List Addr} (nw : ∀ a ∈ F, H a = none ∨ ∃ j, a ∈ G j) : Stp B H G B H (fun j => if j = i then F else G j) :=
  ⟨Ex.refl _, fun _ _ h _ => h, fun j a h => by
    change a ∈ (if j = i then F else G j) at h
    split at h
    · exact (nw a h).symm
    · exact .inl ⟨j, h⟩, fun _ _ _ h _ => h, fun a o h => ⟨o, h⟩⟩
theorem snd_gname {i : Nat} (hp : i ∉ pn) : SndG pn K (gName i) (dgName i) := ⟨fun {B H σ env G p v QD Q} w r q n =>
  n _ _ _ q.2 (w.putS (inE_lt q.1) r) (fun j a h => by
    change a ∈ (if j = i then [] else G j) at h
    split at h
    · cases h
    · exact ⟨j, h⟩) (Pin.set hp)⟩
theorem dg_name {i : Nat} (h : PG X a (gName i)) (hp : i ∉ pn := by decide) : DG pn X a (gName i) (dgName i) := ⟨h, snd_gname hp⟩
abbrev dGs := List P → Env → (Env → Prop) → Prop
structure SndGs (pn : List Nat) (K : PySem.W.Frag) (g : TGs) (dg : dGs) : Prop where
  run : ∀ {B H : Hp} {σ : L2.St} {env : Env} {G : Fp} {ps : List P} {vs : List V} {QD : Env → Prop} {Q : L2.St → Hp → Prop}, Wd K B H σ env G → RpA K B ps vs → dg ps env QD → NxG K pn B H G σ QD Q → g vs σ H Q
structure DGs (pn : List Nat) (X : Cx) (tg : List Expr) (g : TGs) (dg : dGs) : Prop where
  pe : PGs X tg g
  sd : SndGs pn X.K g dg
def dgNil : dGs := fun ps env Q => match ps with
  | [] => Q env
  | _ => False
def dgCons (g : dG) (gs : dGs) : dGs := fun ps env Q => match ps with
  | p :: r => g p env fun e => gs r e Q
  | [] => False
theorem snd_gnil : SndGs pn K gNil dgNil := ⟨fun {B H σ env G ps vs QD Q} w r q n => by
  cases ps with
  | nil => exact ⟨r, n env σ G q w (fun i a h => ⟨i, h⟩) .refl⟩
  | cons _ _ => exact q.elim⟩
theorem snd_gcons {g : TG} {gs : TGs} {dg : dG} {dgs : dGs} (h : SndG pn K g dg) (hs : SndGs pn K gs dgs) : SndGs pn K (gCons g gs) (dgCons dg dgs) := ⟨fun {B H σ env G ps vs QD Q} w r q n => by
  cases ps with
  | nil => exact q.elim
  | cons p ps =>
    obtain ⟨v, l, e1, e2, e3⟩ := r
    exact ⟨v, l, e1, h.run w e2 q fun env' σ' G' q1 w1 g1 p1 => hs.run w1 e3 q1 fun env2 σ2 G2 q2 w2 g2 p2 => n env2 σ2 G2 q2 w2 (fun i a h => (g2 i a h).elim fun j hj => g1 j a hj) (p1.trans p2)⟩⟩
theorem dgs_nil : DGs pn X [] gNil dgNil := ⟨pgs_nil, snd_gnil⟩
theorem dgs_cons {e : Expr} {es : List Expr} {g : TG} {gs : TGs} {dg : dG} {dgs : dGs} (h : DG pn X e g dg) (hs : DGs pn X es gs dgs) (h3 : (assignEach (e :: es) X.env).map (·.2) = assign e X.env :: (assignEach es X.env).map (·.2) := by rfl) : DGs pn X (e :: es) (gCons g gs) (dgCons dg dgs) := ⟨pgs_cons h.pe hs.pe h3, snd_gcons h.sd hs.sd⟩
def dgTup (n : Nat) (gs : dGs) : dG := fun p env Q => match p with
  | .tup ps => ps.length = n ∧ gs ps env Q
  | _ => False
theorem snd_gtup {n : Nat} {gs : TGs} {dgs : dGs} (hs : SndGs pn K gs dgs) : SndG pn K (gTup K n gs) (dgTup n dgs) := ⟨fun {B H σ env G p v QD Q} w r q k => by
  cases p with
  | tup ps =>
    obtain ⟨a, vs, e1, e2, e3⟩ := r
    exact ⟨a, vs, e1, w.ex.sqT e2, e3.length.trans q.1, hs.run w e3 q.2 k⟩
  | _ => exact q.elim⟩
theorem dg_tup {n : Nat} {gs : TGs} {dgs : dGs} (h : PGs X rest' gs → PG X a (gTup X.K n gs)) (hs : DGs pn X rest' gs dgs) : DG pn X a (gTup X.K n gs) (dgTup n dgs) := ⟨h hs.pe, snd_gtup hs.sd⟩

/-! ### stores -/
def dAsg (de : dE) (dg : dG) : dS := fun Dd env => de env fun p e => dg p e Dd.nx
theorem snd_asg {g : TG} {dg : dG} (h : SndE m K te de) (hg : SndG pn K g dg) : SndS pn K (tAsg te g) (dAsg de dg) := ⟨fun {B H σ env G Dd D} w q n r k1 k2 => h.run w q fun p env' v B' H' G' q1 w1 r1 s1 _ =>
  hg.run w1 r1 q1 (n.at s1 .refl).g⟩
theorem ds_asg {tg : Expr} {g : TG} {dg : dG} (h : DE false X e te de) (hg : DG pn X tg g dg) (hs : swapsWithSole [tg] e pos.line X.env = pure false := by rfl) (hw : swappedStores [tg] e X.env = pure none := by rfl) (h1 : (assignEach [tg] X.env).map (·.2) = [assign tg X.env] := by rfl) :
    DS pn X (.Assign [tg] e pos) (tAsg te g) (dAsg de dg) := ⟨ps_asg h.pe hg.pe hs hw h1, snd_asg h.sd hg.sd⟩
/-- name = something that is then the name's own -/
def dPut (i : Nat) (dq : dO) : dS := fun Dd env => dq env fun d e => inE i e = true ∧ Dd.nx (e.set i (some d))
theorem snd_put {i : Nat} (hp : i ∉ pn) (h : SndO m K te dq) : SndS pn K (tAsg te (gName i)) (dPut i dq) := ⟨fun {B H σ env G Dd D} w q n r k1 k2 => h.run w q fun d env' v F B' H' G' q1 w1 o1 s1 _ =>
  n _ _ B' H' _ q1.2 (w1.put (inE_lt q1.1) o1.rp o1.nd o1.nb fun a ha j _ => o1.ap a ha j) ⟨s1.ex, s1.kp, fun j a hm => by
    change a ∈ (if j = i then F else G' j) at hm
    split at hm
    · exact o1.nw a hm
    · exact s1.fp j a hm, s1.bs, s1.th⟩ (Pin.set hp)⟩
theorem ds_put {i : Nat} {tg : Expr} (h : DO false X e te dq) (hg : PG X tg (gName i)) (hp : i ∉ pn := by decide) (hs : swapsWithSole [tg] e pos.line X.env = pure false := by rfl) (hw : swappedStores [tg] e X.env = pure none := by rfl) (h1 : (assignEach [tg] X.env).map (·.2) = [assign tg X.env] := by rfl) :
    DS pn X (.Assign [tg] e pos) (tAsg te (gName i)) (dPut i dq) := ⟨ps_asg h.pe hg hs hw h1, snd_put hp h.sd⟩
theorem ds_setc {i : Nat} {tg : Expr} {st : Stmt} (h : PS X st (tAsg te (gName i))) (hq : SndO m X.K te dq) (hp : i ∉ pn := by decide) : DS pn X st (tAsg te (gName i)) (dPut i dq) := ⟨h, snd_put hp hq⟩
/-- return of a name that holds its own list: given away -/
def dRetV (i : Nat) : dS := fun Dd env => match env[i]? with
  | some (some d) => Dd.rt d (env.set i none)
  | _ => False
theorem Wd.drop {B H : Hp} {σ : L2.St} {env : Env} {G : Fp} (w : Wd K B H σ env G) (i : Nat) : Wd K B H σ (env.set i none) (fun j => if j = i then [] else G j) := by
  refine ⟨⟨w.ex, fun j d' e' => ?_, fun j hn => ?_, fun j => ?_, fun j l a ha hb => ?_, fun j a ha => ?_, by rw [List.length_set]; exact w.len⟩, w.rf⟩
  · rcases set_some e' with ⟨_, e2, _⟩ | ⟨n, e'⟩
    · cases e2
    · obtain ⟨v', g1, g2⟩ := w.sl j d' e'
      refine ⟨v', g1, ?_⟩
      rw [if_neg fun q => n q.symm]
      exact g2
  · show (if j = i then [] else G j) = []
    split
    · rfl
    · rename_i n
      refine w.no j fun d' => ?_
      have := hn d'
      rw [List.getElem?_set_ne fun q => n q.symm] at this
      exact this
  · show (if j = i then [] else G j).Nodup
    split
    · exact List.nodup_nil
    · exact w.nd j
  · change a ∈ (if j = i then [] else G j) at ha
    change a ∈ (if l = i then [] else G l) at hb
    split at ha
    · cases ha
    · split at hb
      · cases hb
      · exact w.dj j l a ha hb
  · change a ∈ (if j = i then [] else G j) at ha
    split at ha
    · cases ha
    · exact w.nb j a ha
theorem snd_retV {i : Nat} : SndS pn K (tRet (tVar i)) (dRetV i) := ⟨fun {B H σ env G Dd D} w q n r k1 k2 => by
  unfold dRetV at q
  split at q
  · rename_i d hd
    obtain ⟨v, h1, h2⟩ := w.sl i d hd
    refine ⟨v, h1, r d _ σ v (G i) B H _ q (w.drop i) ⟨h2, w.nd i, w.nb i, fun a ha => .inl ⟨i, ha⟩, fun a ha j hj => ?_⟩ (stp_put fun _ h => absurd h List.not_mem_nil) .refl⟩
    change a ∈ (if j = i then [] else G j) at hj
    split at hj
    · cases hj
    · rename_i n
      exact n (w.dj j i a hj ha)
  · exact q.elim⟩
theorem ds_retV (i : Nat) (h : PE X e (tVar i)) : DS pn X (.Return (some e) pos) (tRet (tVar i)) (dRetV i) := ⟨ps_ret h, snd_retV⟩
end
end DL
set_option Elab.async false
set_option linter.all false
set_option maxRecDepth 100000
namespace DL
open PySem PySem.Spec L2
variable [Rf]
section
variable {pn : List Nat} {m : Bool} {K : PySem.W.Frag} {te ta tb ti to : TE} {de da db di : dE} {dq : dO} {tt : TT} {dt : dT} {t u : TS} {dt1 du : dS} {X : Cx} {a b c e : Expr} {st : Stmt} {rest sb : List Stmt} {pos : Pos}
/-! ### a slot's own list is changed -/
def ixQ (q : P) (o : Option (Option D)) (f : Int → List P → Prop) : Prop := match q, o with
  | .int k, some (some (.ol ps)) => f k ps
  | _, _ => False
theorem ixQ_is {q : P} {o : Option (Option D)} {f : Int → List P → Prop} (h : ixQ q o f) : ∃ k ps, q = .int k ∧ o = some (some (.ol ps)) ∧ f k ps := by
  unfold ixQ at h
  split at h
  · exact ⟨_, _, rfl, rfl, h⟩
  · exact h.elim
theorem Wd.chg {B H : Hp} {σ : L2.St} {env : Env} {G : Fp} {i : Nat} {d d' : D} {v : V} {l : Addr} {o : HO} (w : Wd K B H σ env G) (e : env[i]? = some (some d)) (hv : σ[i]? = some (some v)) (hl : l ∈ G i) (r : RpD K B (upd H l o) d' v (G i)) :
    Wd K B (upd H l o) σ (env.set i (some d')) G ∧ Stp B H G B (upd H l o) G := by
  have nB : B l = none := w.nb i l hl
  refine ⟨⟨⟨fun a u h => ?_, fun j d2 h => ?_, fun j hn => ?_, w.nd, w.dj, w.nb, by rw [List.length_set]; exact w.len⟩, w.rf⟩, ⟨Ex.refl _, fun a u h n => ?_, fun j a h => .inl ⟨j, h⟩, fun _ _ _ h _ => h, fun a u h => ?_⟩⟩
  · rw [upd_ne (ne_of_none h nB)]; exact w.ex a u h
  · rcases set_some h with ⟨rfl, e2, _⟩ | ⟨n, h⟩
    · cases e2; exact ⟨v, hv, r⟩
    · obtain ⟨v', h1, h2⟩ := w.sl j d2 h
      refine ⟨v', h1, RpD.mono (Ex.refl B) h2 fun a ha u hu => ?_⟩
      rw [upd_ne fun q => n (w.dj i j a (by rw [q]; exact hl) ha)]
      exact hu
  · refine w.no j fun d2 h => ?_
    by_cases q : i = j
    · subst q; exact hn d' (List.getElem?_set_self (env_lt e))
    · exact hn d2 (by rw [List.getElem?_set_ne q]; exact h)
  · rw [upd_ne fun q => n i (by rw [q]; exact hl)]; exact h
  · by_cases q : a = l
    · subst q; exact ⟨_, upd_same⟩
    · exact ⟨u, by rw [upd_ne q]; exact h⟩
theorem Wd.app {B H : Hp} {σ : L2.St} {env : Env} {G : Fp} {i : Nat} {ps : List P} {l : Addr} {vs : List V} {p : P} {y : V} (w : Wd K B H σ env G) (e : env[i]? = some (some (.ol ps))) (hv : σ[i]? = some (some (.ref l))) (hG : G i = [l]) (hl : H l = some (.lst vs)) (r : RpA K B ps vs) (rp : Rp K B p y) :
    Wd K B (upd H l (.lst (vs ++ [y]))) σ (env.set i (some (.ol (ps ++ [p])))) G ∧ Stp B H G B (upd H l (.lst (vs ++ [y]))) G :=
  w.chg e hv (by rw [hG]; exact List.mem_cons_self) ⟨l, _, hG, rfl, upd_same, r.append (RpA.one rp)⟩
/-- i.append(e) -/
def dApp (i : Nat) (de : dE) : dS := fun Dd env => match env[i]? with
  | some (some (.ol _)) => de env fun p e => match e[i]? with
    | some (some (.ol ps)) => ps.length < sizeLine ∧ Dd.nx (e.set i (some (.ol (ps ++ [p]))))
    | _ => False
  | _ => False
theorem snd_app {i : Nat} (h : SndE m K te de) : SndS pn K (tDrop (tBM K "list" rAppend (tVar i) (tCons te tNil))) (dApp i de) := ⟨fun {B H σ env G Dd D} w q n r k1 k2 => by
  unfold dApp at q
  split at q
  · rename_i ps0 hd
    obtain ⟨v, h1, a0, vs0, _, rfl, h4, _⟩ := w.sl i _ hd
    refine ⟨.ref a0, h1, .inl ⟨rfl, _, SqL.of h4⟩, ?_⟩
    refine h.run w q fun p e v2 B1 H1 G1 q1 w1 r1 s1 _ => ?_
    change (match e[i]? with | some (some (.ol ps)) => ps.length < sizeLine ∧ Dd.nx (e.set i (some (.ol (ps ++ [p])))) | _ => False) at q1
    split at q1
    · rename_i ps hd1
      obtain ⟨v3, g1, a1, vs, g2, g3, g4, g5⟩ := w1.sl i _ hd1
      rw [h1] at g1
      cases g1
      cases g3
      refine ⟨a0, vs, v2, rfl, rfl, g4, by rw [g5.length]; exact q1.1, ?_⟩
      obtain ⟨w2, s2⟩ := w1.app hd1 h1 g2 g4 g5 r1
      exact n _ σ B1 _ G1 q1.2 w2 (s1.trans s2) .refl
    · exact q1.elim
  · exact q.elim⟩
theorem ds_app {i : Nat} {o : Expr} {apos cpos : Pos} (h : PA X [e] (tCons te tNil) → PE X (.Call (.Attribute o "append" apos) [e] [] cpos) (tBM X.K "list" rAppend (tVar i) (tCons te tNil))) (he : DE false X e te de)
    (hs : swapsWith (.Call (.Attribute o "append" apos) [e] [] cpos) none pos.line X.env = pure false := by rfl) (hs2 : starEach [e] X.env = (false, eval e X.env) :: starEach [] X.env := by rfl) :
    DS pn X (.Expr (.Call (.Attribute o "append" apos) [e] [] cpos) pos) (tDrop (tBM X.K "list" rAppend (tVar i) (tCons te tNil))) (dApp i de) := ⟨ps_expr (h (pa_cons he.pe pa_nil hs2)) hs, snd_app he.sd⟩
/-- i[k] = e -/
def dSetI (i : Nat) (dk de : dE) : dS := fun Dd env => de env fun p e1 => match e1[i]? with
  | some (some (.ol _)) => dk e1 fun q e2 => ixQ q e2[i]? fun k ps => ∃ j, ixN ps.length k = some j ∧ Dd.nx (e2.set i (some (.ol (ps.set j p))))
  | _ => False
theorem snd_setI {i : Nat} (hk : SndE m K ti di) (h : SndE m K te de) : SndS pn K (tAsg te (gSub (tVar i) ti rSetL)) (dSetI i di de) := ⟨fun {B H σ env G Dd D} w q n r k1 k2 => by
  refine h.run w q fun p e1 v2 B1 H1 G1 q1 w1 r1 s1 _ => ?_
  change (match e1[i]? with | some (some (.ol _)) => di e1 _ | _ => False) at q1
  split at q1
  · rename_i ps0 hd
    obtain ⟨v, h1, a0, vs0, _, rfl, h4, _⟩ := w1.sl i _ hd
    refine ⟨.ref a0, h1, ?_⟩
    refine hk.run w1 q1 fun q e2 v3 B2 H2 G2 q2 w2 r2 s2 _ => ?_
    obtain ⟨k, ps, rfl, hd2, q2⟩ := ixQ_is q2
    · obtain ⟨v4, g1, a1, vs, g2, g3, g4, g5⟩ := w2.sl i _ hd2
      rw [h1] at g1
      cases g1
      cases g3
      obtain ⟨j, hj, q2⟩ := q2
      refine ⟨a0, vs, k, j, rfl, r2, g4, by rw [g5.length]; exact hj, ?_⟩
      obtain ⟨w3, s3⟩ := w2.chg (d' := .ol (ps.set j p)) (o := .lst (vs.set j v2)) (l := a0) hd2 h1 (by rw [g2]; exact List.mem_cons_self) ⟨a0, _, g2, rfl, upd_same, g5.set (Rp.mono s2.ex p r1)⟩
      exact n _ σ B2 _ G2 q2 w3 ((s1.trans s2).trans s3) .refl
  · exact q1.elim⟩
theorem ds_setI {i : Nat} {tg : Expr} (hg : PE X b ti → PG X tg (gSub (tVar i) ti rSetL)) (hk : DE false X b ti di) (he : DE false X e te de)
    (hs : swapsWithSole [tg] e pos.line X.env = pure false := by rfl) (hw : swappedStores [tg] e X.env = pure none := by rfl) (h1 : (assignEach [tg] X.env).map (·.2) = [assign tg X.env] := by rfl) :
    DS pn X (.Assign [tg] e pos) (tAsg te (gSub (tVar i) ti rSetL)) (dSetI i di de) := ⟨ps_asg he.pe (hg hk.pe) hs hw h1, snd_setI hk.sd he.sd⟩

/-! ### an own list, read and let go -/
def scl : P → Prop
  | .non => True
  | .bl _ => True
  | .int _ => True
  | .str _ => True
  | .ob _ => True
  | _ => False
theorem scl_rp {B B' : Hp} {p : P} {v : V} (h : scl p) (r : Rp K B p v) : Rp K B' p v := by
  cases p <;> first | exact r | exact h.elim
def dLend (i : Nat) (de : dE) : dE := fun env Q => match env[i]? with
  | some (some d) => de (env.set i (some (.sh d.frz))) fun p _ => scl p ∧ Q p env
  | _ => False
theorem Wd.lent {B H : Hp} {σ : L2.St} {env : Env} {G : Fp} {i : Nat} {d : D} (w : Wd K B H σ env G) (e : env[i]? = some (some d)) :
    Wd K (frzB B H (G i)) H σ (env.set i (some (.sh d.frz))) (fun j => if j = i then [] else G j) := by
  obtain ⟨v, h1, h2⟩ := w.sl i _ e
  have nb : ∀ a ∈ G i, B a = none := fun a ha => w.nb i a ha
  have w1 := (w.drop i).frzO (F := G i) nb (fun a ha j hj => by
    change a ∈ (if j = i then [] else G j) at hj
    split at hj
    · cases hj
    · rename_i n; exact n (w.dj j i a hj ha))
  have w2 := w1.put (i := i) (d := .sh d.frz) (v := v) (F := []) (by rw [List.length_set]; exact env_lt e) ⟨rfl, frz_rp nb h2⟩ List.nodup_nil (fun _ h => absurd h List.not_mem_nil) (fun _ h => absurd h List.not_mem_nil)
  rw [set_id h1, List.set_set] at w2
  have : (fun j => if j = i then ([] : List Addr) else if j = i then [] else G j) = fun j => if j = i then [] else G j := by
    funext j; split <;> rfl
  rw [this] at w2
  exact w2
theorem snd_lend {i : Nat} (h : SndE true K te de) : SndE m K te (dLend i de) := ⟨fun {B H σ env G QD Q} w q k => by
  unfold dLend at q
  split at q
  · rename_i d hd
    refine h.run (w.lent hd) q fun p e v B1 H1 G1 q1 w1 r1 s1 u1 => ?_
    obtain ⟨_, _, g⟩ := u1 rfl
    have g2 : Gr B H B H1 := ⟨Ex.refl _, g.h, w.ex.trans g.h, fun a o h n => n⟩
    exact k p env v B H1 G q1.2 (w.gr g2) (scl_rp q1.1 r1) g2.stp (.gr g2)
  · exact q.elim⟩
theorem de_lend (i : Nat) (h : DE true X a te de) : DE m X a te (dLend i de) := ⟨h.pe, snd_lend h.sd⟩
def dLendT (i : Nat) (de : dT) : dT := fun env Q => match env[i]? with
  | some (some d) => de (env.set i (some (.sh d.frz))) fun p _ => Q p env
  | _ => False
theorem snd_lendT {i : Nat} (h : SndT true K tt dt) : SndT m K tt (dLendT i dt) := ⟨fun {B H σ env G QD Q} w q k => by
  unfold dLendT at q
  split at q
  · rename_i d hd
    refine h.run (w.lent hd) q fun b e B1 H1 G1 q1 w1 s1 u1 => ?_
    obtain ⟨_, _, g⟩ := u1 rfl
    have g2 : Gr B H B H1 := ⟨Ex.refl _, g.h, w.ex.trans g.h, fun a o h n => n⟩
    exact k b env B H1 G q1 (w.gr g2) g2.stp (.gr g2)
  · exact q.elim⟩
theorem dt_lend (i : Nat) (h : DT true X a tt dt) : DT m X a tt (dLendT i dt) := ⟨h.pe, snd_lendT h.sd⟩
/-- i[k] of an own list: the item is plain -/
def dItm (i : Nat) (dk : dE) : dE := fun env Q => match env[i]? with
  | some (some (.ol _)) => dk env fun q e => ixQ q e[i]? fun k ps => ∃ p, atI ps k = some p ∧ Q p e
  | _ => False
theorem atI_rp {B : Hp} {ps : List P} {vs : List V} {k : Int} {p : P} (r : RpA K B ps vs) (h : atI ps k = some p) : ∃ v, atI vs k = some v ∧ Rp K B p v := by
  unfold atI at h ⊢
  rw [r.length]
  cases hx : ixN ps.length k with
  | none => rw [hx] at h; cases h
  | some j =>
    rw [hx] at h
    exact r.get h
theorem snd_itm {i : Nat} (hk : SndE m K ti di) : SndE m K (tOp (rIxL K) (tVar i) ti) (dItm i di) := ⟨fun {B H σ env G QD Q} w q k => by
  unfold dItm at q
  split at q
  · rename_i ps0 hd
    obtain ⟨v, h1, a0, vs0, _, rfl, h4, _⟩ := w.sl i _ hd
    refine ⟨.ref a0, h1, ?_⟩
    refine hk.run w q fun q e2 v3 B2 H2 G2 q2 w2 r2 s2 u2 => ?_
    obtain ⟨kk, ps, rfl, hd2, q2⟩ := ixQ_is q2
    · obtain ⟨v4, g1, a1, vs, g2, g3, g4, g5⟩ := w2.sl i _ hd2
      rw [h1] at g1
      cases g1
      cases g3
      obtain ⟨p, hp, q2⟩ := q2
      obtain ⟨z, hz, rz⟩ := atI_rp g5 hp
      exact ⟨a0, vs, kk, z, rfl, r2, SqL.of g4, hz, k p e2 z B2 H2 G2 q2 w2 rz s2 u2⟩
  · exact q.elim⟩
theorem de_itm (i : Nat) (h : PE X b ti → PE X e (tOp (rIxL X.K) (tVar i) ti)) (hk : DE m X b ti di) : DE m X e (tOp (rIxL X.K) (tVar i) ti) (dItm i di) := ⟨h hk.pe, snd_itm hk.sd⟩

/-! ### loops -/
/-- what a walk yields, wherever it goes on from B0 -/
def ItOk (K : PySem.W.Frag) (J : It) (B0 : Hp) (ps : List P) : Prop := ∀ (B H : Hp) (i : Nat), Ex B0 B → Ex B H → i ≤ ps.length →
  (∀ p, ps[i]? = some p → J.go i H ∧ ∀ x H', J.yld i H x H' → ∃ B', Gr B H B' H' ∧ Rp K B' p x) ∧ (ps.length ≤ i → J.stop i H)
abbrev dI := Env → (List P → Env → Prop) → Prop
structure SndI (m : Bool) (K : PySem.W.Frag) (wi : TI) (di : dI) : Prop where
  run : ∀ {B H : Hp} {σ : L2.St} {env : Env} {G : Fp} {QD : List P → Env → Prop} {R : It → Hp → Prop}, Wd K B H σ env G → di env QD →
    (∀ ps env' B' H' G' J, QD ps env' → Wd K B' H' σ env' G' → Stp B H G B' H' G' → Pure m env env' G G' B H B' H' → ItOk K J B' ps → R J H') → wi σ H R
structure DI (m : Bool) (X : Cx) (tg iter : Expr) (wi : TI) (di : dI) : Prop where
  pe : PI X tg iter wi
  sd : SndI m X.K wi di
def dFor (di : dI) (dg : dG) (body : dS) : dS := fun Dd env => di env fun ps env1 => ∃ Inv : Nat → Env → Prop, Inv 0 env1 ∧
  (∀ i p e, ps[i]? = some p → Inv i e → dg p e fun e2 => body { Dd with nx := Inv (i + 1), ct := Inv (i + 1), bk := Dd.nx } e2) ∧ ∀ e, Inv ps.length e → Dd.nx e
variable {wi : TI} {dw : dI} {g : TG} {dg : dG}
theorem snd_for (hi : SndI m K wi dw) (hg : SndG pn K g dg) (hb : SndS pn K t dt1) : SndS pn K (tFor wi g t) (dFor dw dg dt1) := ⟨fun {B H σ env G Dd D} w q n r k1 k2 => by
  refine hi.run w q fun ps env1 B1 H1 G1 J q1 w1 s1 _ hJ => ?_
  obtain ⟨Inv, i0, turn, done⟩ := q1
  let W : Nat → L2.St → Hp → Prop := fun i σ' H' => ∃ env' B' G', Inv i env' ∧ Wd K B' H' σ' env' G' ∧ Stp B1 H1 G1 B' H' G' ∧ Pin pn σ σ'
  refine ⟨fun i mm σ' H' => mm = ps.length - i ∧ i ≤ ps.length ∧ W i σ' H', ⟨_, rfl, Nat.zero_le _, env1, B1, G1, i0, w1, .refl, .refl⟩, ?_⟩
  rintro i mm σ' H' ⟨rfl, hle, env', B', G', hI, w', s', p'⟩
  obtain ⟨hgo, hst⟩ := hJ B' H' i s'.ex w'.ex hle
  by_cases hlt : i < ps.length
  · obtain ⟨go, yl⟩ := hgo ps[i] (List.getElem?_eq_getElem hlt)
    refine .inr ⟨go, W (i + 1), fun σ2 H2 h2 => ⟨ps.length - (i + 1), by omega, rfl, hlt, h2⟩, fun x H2 y => ?_⟩
    obtain ⟨B2, g2, r2⟩ := yl x H2 y
    have w2 := w'.gr g2
    have s2 := s'.trans (g2.stp (G := G'))
    refine hg.run w2 r2 (turn i ps[i] env' (List.getElem?_eq_getElem hlt) hI) fun env3 σ3 G3 q3 w3 g3 p3 => ?_
    have st3 := s2.trans (stp_g g3)
    have pi3 := p'.trans p3
    refine hb.run (D := { D with nx := W (i + 1), ct := W (i + 1), bk := D.nx }) w3 q3 ?_ ?_ ?_ ?_
    · exact fun env4 σ4 B4 H4 G4 q4 w4 s4 p4 => ⟨env4, B4, G4, q4, w4, st3.trans s4, pi3.trans p4⟩
    · exact r.at (s1.trans st3) pi3
    · exact n.at (s1.trans st3) pi3
    · exact fun env4 σ4 B4 H4 G4 q4 w4 s4 p4 => ⟨env4, B4, G4, q4, w4, st3.trans s4, pi3.trans p4⟩
  · have e : i = ps.length := by omega
    subst e
    exact .inl ⟨hst (Nat.le_refl _), n env' σ' B' H' G' (done env' hI) w' (s1.trans s') p'⟩⟩
theorem ds_for {tg iter : Expr} {body : List Stmt} (hp : PassesOwn (model X.prog X.w) X.A X.env X.xe) (hc : X.calm = true) (hi : DI false X tg iter wi dw) (hg : DG pn X tg g dg) (hb : DSs pn X body t dt1)
    (hs : ∀ x, foldedSetIterable iter X.env x = pure x := by intro _; rfl) : DS pn X (.For tg iter body [] pos) (tFor wi g t) (dFor dw dg dt1) := ⟨ps_for hp hc hi.pe hg.pe hb.pe hs, snd_for hi.sd hg.sd hb.sd⟩
def dWhile (dt : dT) (body : dS) : dS := fun Dd env => ∃ W : Nat → Env → Prop, (∃ m, W m env) ∧ ∀ m e, W m e → dt e fun b e1 => cnd b (body { Dd with nx := fun e2 => ∃ m', m' < m ∧ W m' e2, ct := fun e2 => ∃ m', m' < m ∧ W m' e2, bk := Dd.nx } e1) (Dd.nx e1)
theorem snd_while (hc : SndT m K tt dt) (hb : SndS pn K t dt1) : SndS pn K (tWhile tt t) (dWhile dt dt1) := ⟨fun {B H σ env G Dd D} w q n r k1 k2 => by
  obtain ⟨W, ⟨m0, w0⟩, turn⟩ := q
  let Wx : Nat → L2.St → Hp → Prop := fun mm σ' H' => ∃ env' B' G', W mm env' ∧ Wd K B' H' σ' env' G' ∧ Stp B H G B' H' G' ∧ Pin pn σ σ'
  refine ⟨Wx, ⟨m0, env, B, G, w0, w, .refl, .refl⟩, ?_⟩
  rintro mm σ' H' ⟨env', B', G', hI, w', s', p'⟩
  refine hc.run w' (turn mm env' hI) fun b e1 B1 H1 G1 q1 w1 s1 _ => ?_
  have st := s'.trans s1
  cases b with
  | true =>
    replace q1 := q1.1 rfl
    rw [if_pos rfl]
    refine ⟨fun σ2 H2 => ∃ m', m' < mm ∧ Wx m' σ2 H2, fun _ _ h => h, ?_⟩
    refine hb.run (D := { D with nx := fun σ2 H2 => ∃ m', m' < mm ∧ Wx m' σ2 H2, ct := fun σ2 H2 => ∃ m', m' < mm ∧ Wx m' σ2 H2, bk := D.nx }) w1 q1 ?_ (r.at st p') (n.at st p') ?_
    · exact fun env4 σ4 B4 H4 G4 ⟨m', hm, q4⟩ w4 s4 p4 => ⟨m', hm, env4, B4, G4, q4, w4, st.trans s4, p'.trans p4⟩
    · exact fun env4 σ4 B4 H4 G4 ⟨m', hm, q4⟩ w4 s4 p4 => ⟨m', hm, env4, B4, G4, q4, w4, st.trans s4, p'.trans p4⟩
  | false =>
    replace q1 := q1.2 rfl
    rw [if_neg Bool.false_ne_true]
    exact n e1 σ' B1 H1 G1 q1 w1 st p'⟩
theorem ds_while {body : List Stmt} (hp : PassesOwn (model X.prog X.w) X.A X.env X.xe) (hc : DT false X c tt dt) (hb : DSs pn X body t dt1) : DS pn X (.While c body [] pos) (tWhile tt t) (dWhile dt dt1) := ⟨ps_while hp hc.pe hb.pe, snd_while hc.sd hb.sd⟩

/-! ### what is walked -/
def plst : P → Option (List P)
  | .lst ps => some ps
  | .rol ps => some ps
  | _ => none
def diL (de : dE) : dI := fun env Q => de env fun p e => match plst p with
  | some ps => Q ps e
  | none => False
theorem plst_rp {B : Hp} {p : P} {v : V} {ps : List P} (r : Rp K B p v) (h : plst p = some ps) : ∃ a vs, v = .ref a ∧ SqL K B a vs ∧ RpA K B ps vs := by
  cases p with
  | lst qs => cases h; obtain ⟨a, vs, e1, e2, e3⟩ := r; exact ⟨a, vs, e1, SqL.of e2, e3⟩
  | rol qs => cases h; obtain ⟨a, vs, e1, e2, e3⟩ := r; exact ⟨a, vs, e1, e2, e3⟩
  | _ => cases h
/-- a list that is plain is one list, whatever is told of it -/
theorem snd_il (h : SndE m K te de) : SndI m K (iList K te) (diL de) := ⟨fun {B H σ env G QD R} w q k => h.run w q fun p e v B1 H1 G1 q1 w1 r1 s1 u1 => by
  change (match plst p with | some ps => QD ps e | none => False) at q1
  split at q1
  · rename_i ps hp
    obtain ⟨a, vs, rfl, h2, h3⟩ := plst_rp r1 hp
    refine ⟨a, rfl, ⟨vs, w1.ex.sqL h2⟩, k ps e B1 H1 G1 _ q1 w1 s1 u1 fun B' H' i e1 e2 _ => ⟨fun p hp => ?_, fun hle => ⟨vs, (e1.trans e2).sqL h2, by rw [h3.length]; exact hle⟩⟩⟩
    obtain ⟨x, hx, rx⟩ := h3.get hp
    refine ⟨⟨vs, x, (e1.trans e2).sqL h2, hx⟩, fun y H2 hy => ?_⟩
    obtain ⟨rfl, hy⟩ := hy
    have := hy vs ((e1.trans e2).sqL h2)
    rw [hx] at this
    cases this
    exact ⟨B', .refl e2, Rp.mono e1 _ rx⟩
  · exact q1.elim⟩
end
end DL
set_option Elab.async false
set_option linter.all false
set_option maxRecDepth 100000
namespace DL
open PySem PySem.Spec L2
variable [Rf]
section
variable {pn : List Nat} {m : Bool} {K : PySem.W.Frag} {te ta tb ti to : TE} {de da db di : dE} {dq : dO} {tt : TT} {dt : dT} {t u : TS} {dt1 du : dS} {X : Cx} {a b c e : Expr} {st : Stmt} {rest sb : List Stmt} {pos : Pos}
variable {wi : TI} {dw : dI} {g : TG} {dg : dG}
/-! ### comprehensions -/
def lenE : Nat → Env → Bool
  | _, [] => true
  | 0, _ :: _ => false
  | n + 1, _ :: e => lenE n e
theorem lenE_le : ∀ {n : Nat} {e : Env}, lenE n e = true → e.length ≤ n
  | _, [], _ => Nat.zero_le _
  | 0, _ :: _, h => by cases h
  | n + 1, _ :: e, h => Nat.succ_le_succ (lenE_le (n := n) (e := e) h)
def wipeE (e : Env) : List Nat → Env
  | [] => e
  | v :: vs => (wipeE e vs).set v none
def wipeG (G : Fp) : List Nat → Fp
  | [] => G
  | v :: vs => fun j => if j = v then [] else wipeG G vs j
theorem wipeG_sub {G : Fp} : ∀ {vs : List Nat} {i : Nat} {a : Addr}, a ∈ wipeG G vs i → a ∈ G i
  | [], _, _, h => h
  | v :: vs, i, a, h => by
    change a ∈ (if i = v then [] else wipeG G vs i) at h
    split at h
    · cases h
    · exact wipeG_sub h
theorem Wd.setN {B H : Hp} {σ : L2.St} {env : Env} {G : Fp} {i : Nat} {x : Option V} (w : Wd K B H σ env G) (n : ∀ d, env[i]? ≠ some (some d)) : Wd K B H (σ.set i x) env G where
  rf := w.rf
  ex := w.ex
  sl := fun j d e => by
    obtain ⟨v, h1, h2⟩ := w.sl j d e
    refine ⟨v, ?_, h2⟩
    rw [List.getElem?_set_ne fun q => n d (by rw [q]; exact e)]
    exact h1
  no := w.no
  nd := w.nd
  dj := w.dj
  nb := w.nb
  len := by rw [List.length_set]; exact w.len
theorem wipeE_none {e : Env} : ∀ {vs : List Nat} {i : Nat}, i ∈ vs → ∀ d, (wipeE e vs)[i]? ≠ some (some d)
  | v :: vs, i, h, d, q => by
    change ((wipeE e vs).set v none)[i]? = _ at q
    rcases set_some q with ⟨_, e2, _⟩ | ⟨n, q⟩
    · cases e2
    · rcases List.mem_cons.mp h with h | h
      · exact n h.symm
      · exact wipeE_none h d q
theorem Wd.wipe {B H : Hp} {σ : L2.St} {env : Env} {G : Fp} (w : Wd K B H σ env G) : ∀ vs : List Nat, Wd K B H (L2.wipe σ vs) (wipeE env vs) (wipeG G vs)
  | [] => w
  | v :: vs => by
    have w1 := (Wd.wipe w vs).drop v
    refine Wd.setN w1 fun d q => ?_
    rcases set_some q with ⟨_, e2, _⟩ | ⟨n, q⟩
    · cases e2
    · exact n rfl
/-- the names of the block are nothing to the slots around it -/
theorem Wd.unwipe {B H : Hp} {σ σ2 : L2.St} {env : Env} {G : Fp} {vs : List Nat} (w : Wd K B H σ2 env G) (h : L2.wipe σ2 vs = L2.wipe σ vs) (hl : σ2.length = σ.length) : Wd K B H σ (wipeE env vs) (wipeG G vs) := by
  have w1 := w.wipe vs
  rw [h] at w1
  refine ⟨⟨w1.ex, fun j d e => ?_, w1.no, w1.nd, w1.dj, w1.nb, by rw [← hl, ← w.len]; exact (show (wipeE env vs).length = env.length from by
    clear w1 h w
    induction vs with
    | nil => rfl
    | cons v vs ih => show ((wipeE env vs).set v none).length = _; rw [List.length_set, ih])⟩, w1.rf⟩
  obtain ⟨v, h1, h2⟩ := w1.sl j d e
  exact ⟨v, (L2.wipe_some h1).1, h2⟩
theorem wipe_get {σ : L2.St} : ∀ (vs : List Nat) (i : Nat), (L2.wipe σ vs)[i]? = if i ∈ vs ∧ i < σ.length then some none else σ[i]?
  | [], i => by simp [L2.wipe]
  | v :: vs, i => by
    show ((L2.wipe σ vs).set v none)[i]? = _
    by_cases h : v = i
    · subst h
      by_cases hl : v < σ.length
      · rw [List.getElem?_set_self (by rw [L2.wipe_length]; exact hl), if_pos ⟨List.mem_cons_self, hl⟩]
      · rw [List.getElem?_eq_none (by rw [List.length_set, L2.wipe_length]; omega), if_neg fun q => hl q.2, List.getElem?_eq_none (by omega)]
    · rw [List.getElem?_set_ne h, wipe_get vs i]
      have : i ∈ v :: vs ↔ i ∈ vs := ⟨fun q => (List.mem_cons.mp q).elim (fun z => absurd z.symm h) id, List.mem_cons_of_mem _⟩
      simp only [this]
/-- the slots besides vs, of n -/
def others (n : Nat) (vs : List Nat) : List Nat := (List.range n).filter fun i => !vs.contains i
theorem wipe_pin {σ σ2 : L2.St} {n : Nat} {vs : List Nat} (h : Pin (others n vs) (L2.wipe σ vs) σ2) (hn : σ.length ≤ n) : L2.wipe σ2 vs = L2.wipe σ vs := by
  apply List.ext_getElem?
  intro i
  have hl := h.1
  rw [L2.wipe_length] at hl
  rw [wipe_get, wipe_get, hl]
  by_cases hi : i ∈ vs ∧ i < σ.length
  · rw [if_pos hi, if_pos hi]
  · rw [if_neg hi, if_neg hi]
    by_cases hlt : i < σ.length
    · have hv : i ∉ vs := fun q => hi ⟨q, hlt⟩
      have := h.2 i (List.mem_filter.mpr ⟨List.mem_range.mpr (by omega), by simpa using hv⟩)
      rw [this, wipe_get, if_neg hi]
    · rw [List.getElem?_eq_none (by omega), List.getElem?_eq_none (by omega)]
/-- the list that grows: no slot's, not plain yet -/
structure Acc (K : PySem.W.Frag) (B H : Hp) (G : Fp) (l : Addr) (ps : List P) : Prop where
  at_ : ∃ vs, H l = some (.lst vs) ∧ RpA K B ps vs
  nb : B l = none
  ap : ∀ i, l ∉ G i
theorem Acc.stp {B H B' H' : Hp} {G G' : Fp} {l : Addr} {ps : List P} (a : Acc K B H G l ps) (s : Stp B H G B' H' G') : Acc K B' H' G' l ps := by
  obtain ⟨vs, h1, h2⟩ := a.at_
  refine ⟨⟨vs, s.kp l _ h1 a.ap, RpA.mono s.ex ps h2⟩, s.bs l _ h1 a.nb a.ap, fun i hi => ?_⟩
  rcases s.fp i l hi with ⟨j, hj⟩ | hn
  · exact a.ap j hj
  · rw [h1] at hn; cases hn
theorem Acc.wd {B H : Hp} {σ : L2.St} {env : Env} {G : Fp} {l : Addr} {ps : List P} {u : HO} (a : Acc K B H G l ps) (w : Wd K B H σ env G) : Wd K B (upd H l u) σ env G where
  rf := w.rf
  ex := fun x o h => by rw [upd_ne (ne_of_none h a.nb)]; exact w.ex x o h
  sl := fun i d e => by
    obtain ⟨v, h1, h2⟩ := w.sl i d e
    refine ⟨v, h1, RpD.mono (Ex.refl B) h2 fun x hx o ho => ?_⟩
    rw [upd_ne fun q => a.ap i (by rw [← q]; exact hx)]
    exact ho
  no := w.no
  nd := w.nd
  dj := w.dj
  nb := w.nb
  len := w.len
def dLc (di : dI) (dg : dG) (dt : dT) (de : dE) (n : Nat) (vs : List Nat) : dO := fun env Q => di env fun ps env1 => lenE n env1 = true ∧ ∃ Inv : Nat → List P → Env → Prop, Inv 0 [] env1 ∧
  (∀ i p acc e, ps[i]? = some p → Inv i acc e → dg p (wipeE e vs) fun e2 => dt e2 fun b e3 => cnd b (de e3 fun y e4 => acc.length < sizeLine ∧ Inv (i + 1) (acc ++ [y]) (wipeE e4 vs)) (Inv (i + 1) acc (wipeE e3 vs))) ∧
  ∀ acc e, Inv ps.length acc e → Q (.ol acc) e
/-- from one world to another, the growing list aside -/
structure St2 (B H : Hp) (G : Fp) (l : Addr) (B' H' : Hp) (G' : Fp) : Prop where
  ex : Ex B B'
  kp : ∀ a o, H a = some o → (∀ i, a ∉ G i) → H' a = some o
  fp : ∀ i a, a ∈ G' i → (∃ j, a ∈ G j) ∨ H a = none
  bs : ∀ a o, H a = some o → B a = none → (∀ i, a ∉ G i) → B' a = none
  th : ∀ a o, H a = some o → ∃ o', H' a = some o'
theorem stp_new {B H : Hp} {G : Fp} {l : Addr} {u : HO} (h : H l = none) : Stp B H G B (upd H l u) G :=
  ⟨Ex.refl _, fun a o k _ => by rw [upd_ne (ne_of_none k h)]; exact k, fun i a k => .inl ⟨i, k⟩, fun _ _ _ k _ => k, fun a o k => ⟨o, by rw [upd_ne (ne_of_none k h)]; exact k⟩⟩
/-- what was there at the start is kept while the new list at l grows -/
theorem Stp.grow {B H B' H' : Hp} {G G' : Fp} {l : Addr} {u : HO} (s : Stp B H G B' H' G') (h : H l = none) : Stp B H G B' (upd H' l u) G' :=
  ⟨s.ex, fun a o k n => by rw [upd_ne (ne_of_none k h)]; exact s.kp a o k n, s.fp, s.bs, fun a o k => by
    obtain ⟨o', e⟩ := s.th a o k
    exact ⟨o', by rw [upd_ne (ne_of_none k h)]; exact e⟩⟩
theorem Stp.wipeG {B H B' H' : Hp} {G G' : Fp} {vs : List Nat} (s : Stp B H G B' H' G') : Stp B H G B' H' (DL.wipeG G' vs) := ⟨s.ex, s.kp, fun i a k => s.fp i a (wipeG_sub k), s.bs, s.th⟩
theorem snd_lc {n : Nat} {vs : List Nat} (hi : SndI m K wi dw) (hg : SndG (others n vs) K g dg) (ht : SndT m K tt dt) (he : SndE m K te de) : SndO false K (tLc wi g tt te vs) (dLc dw dg dt de n vs) := ⟨fun {B H σ env G QD Q} w q k => by
  refine hi.run w q fun ps env1 B1 H1 G1 J q1 w1 s1 _ hJ => ?_
  obtain ⟨hn, Inv, i0, turn, done⟩ := q1
  have hσ : σ.length ≤ n := by rw [← w1.len]; exact lenE_le hn
  intro l hl
  -- the invariant of the loop
  let Wx : Nat → Hp → Prop := fun i H' => ∃ acc env' B' G', Inv i acc env' ∧ Wd K B' H' σ env' G' ∧ Stp B1 H1 G1 B' H' G' ∧ Acc K B' H' G' l acc
  refine ⟨fun i mm H' => mm = ps.length - i ∧ i ≤ ps.length ∧ Wx i H', ⟨_, rfl, Nat.zero_le _, [], env1, B1, G1, i0, ?_, stp_new hl, ⟨⟨[], upd_same, rfl⟩, w1.ex.back hl, fun i hi => w1.off hl i hi⟩⟩, ?_⟩
  · exact w1.gr ⟨Ex.refl _, fun a u k => by rw [upd_ne (ne_of_none k hl)]; exact k, fun a u k => by rw [upd_ne (ne_of_none (w1.ex a u k) hl)]; exact w1.ex a u k, fun a u k n => n⟩
  rintro i mm H' ⟨rfl, hle, acc, env', B', G', hI, w', s', a'⟩
  obtain ⟨hgo, hst⟩ := hJ B' H' i s'.ex w'.ex hle
  by_cases hlt : i < ps.length
  · obtain ⟨go, yl⟩ := hgo ps[i] (List.getElem?_eq_getElem hlt)
    refine .inr ⟨go, Wx (i + 1), fun H2 h2 => ⟨ps.length - (i + 1), by omega, rfl, hlt, h2⟩, fun x H2 y => ?_⟩
    obtain ⟨B2, g2, r2⟩ := yl x H2 y
    have w2 := (w'.gr g2).wipe vs
    have s2 := (s'.trans (g2.stp (G := G'))).wipeG (vs := vs)
    have a2 := a'.stp (G' := wipeG G' vs) ((g2.stp (G := G')).wipeG (vs := vs))
    refine hg.run w2 r2 (turn i ps[i] acc env' (List.getElem?_eq_getElem hlt) hI) fun env3 σ3 G3 q3 w3 g3 p3 => ?_
    have hw3 := wipe_pin p3 hσ
    have hl3 : σ3.length = σ.length := by rw [p3.1, L2.wipe_length]
    refine ⟨hw3, ?_⟩
    have s3 := s2.trans (stp_g g3)
    have a3 := a2.stp (stp_g g3)
    refine ht.run w3 q3 fun bb env4 B4 H4 G4 q4 w4 s4 _ => ?_
    have st4 := s3.trans s4
    have a4 := a3.stp s4
    cases bb with
    | true =>
      replace q4 := q4.1 rfl
      rw [if_pos rfl]
      refine he.run w4 q4 fun p5 env5 v5 B5 H5 G5 q5 w5 r5 s5 _ => ?_
      have st5 := st4.trans s5
      have a5 := a4.stp s5
      obtain ⟨vs5, h5, rp5⟩ := a5.at_
      refine ⟨vs5, h5, by rw [rp5.length]; exact q5.1, acc ++ [p5], wipeE env5 vs, B5, wipeG G5 vs, q5.2, ?_, ?_, ?_⟩
      · have a6 : Acc K B5 H5 (wipeG G5 vs) l acc := ⟨a5.at_, a5.nb, fun i hi => a5.ap i (wipeG_sub hi)⟩
        exact a6.wd (w5.unwipe hw3 hl3)
      · exact (st5.wipeG).grow hl
      · exact ⟨⟨_, upd_same, rp5.append (RpA.one r5)⟩, a5.nb, fun i hi => a5.ap i (wipeG_sub hi)⟩
    | false =>
      replace q4 := q4.2 rfl
      rw [if_neg Bool.false_ne_true]
      exact ⟨acc, wipeE env4 vs, B4, wipeG G4 vs, q4, w4.unwipe hw3 hl3, st4.wipeG, ⟨a4.at_, a4.nb, fun i hi => a4.ap i (wipeG_sub hi)⟩⟩
  · have e : i = ps.length := by omega
    subst e
    obtain ⟨vs5, h5, rp5⟩ := a'.at_
    exact .inl ⟨hst (Nat.le_refl _), k (.ol acc) env' (.ref l) [l] B' H' G' (done acc env' hI) w' ⟨⟨l, vs5, rfl, rfl, h5, rp5⟩, by simp, fun a ha => by rw [List.mem_singleton.mp ha]; exact a'.nb, fun a ha => by
      rw [List.mem_singleton.mp ha]
      exact .inr (s1.back hl), fun a ha j hj => by rw [List.mem_singleton.mp ha] at hj; exact a'.ap j hj⟩ (s1.trans s') .off⟩⟩
/-- the same where an item changes nothing -/
def dLcP (di : dI) (dg : dG) (dt : dT) (de : dE) (n : Nat) (vs : List Nat) : dO := fun env Q => di env fun ps env1 => lenE n env1 = true ∧ ∃ Inv : Nat → List P → Prop, Inv 0 [] ∧
  (∀ i p acc, ps[i]? = some p → Inv i acc → dg p (wipeE env1 vs) fun e2 => dt e2 fun b e3 => cnd b (de e3 fun y _ => acc.length < sizeLine ∧ Inv (i + 1) (acc ++ [y])) (Inv (i + 1) acc)) ∧
  ∀ acc, Inv ps.length acc → Q (.ol acc) env1
theorem snd_lcP {n : Nat} {vs : List Nat} (hi : SndI m K wi dw) (hg : SndG (others n vs) K g dg) (ht : SndT true K tt dt) (he : SndE true K te de) : SndO m K (tLc wi g tt te vs) (dLcP dw dg dt de n vs) := ⟨fun {B H σ env G QD Q} w q k => by
  refine hi.run w q fun ps env1 B1 H1 G1 J q1 w1 s1 u1 hJ => ?_
  obtain ⟨hn, Inv, i0, turn, done⟩ := q1
  have hσ : σ.length ≤ n := by rw [← w1.len]; exact lenE_le hn
  intro l hl
  let Wx : Nat → Hp → Prop := fun i H' => ∃ acc B', Inv i acc ∧ Gr B1 H1 B' H' ∧ Acc K B' H' G1 l acc
  have g0 : Gr B1 H1 B1 (upd H1 l (.lst [])) := ⟨Ex.refl _, fun a u k => by rw [upd_ne (ne_of_none k hl)]; exact k, fun a u k => by rw [upd_ne (ne_of_none (w1.ex a u k) hl)]; exact w1.ex a u k, fun a u k n => n⟩
  refine ⟨fun i mm H' => mm = ps.length - i ∧ i ≤ ps.length ∧ Wx i H', ⟨_, rfl, Nat.zero_le _, [], B1, i0, g0, ⟨⟨[], upd_same, rfl⟩, w1.ex.back hl, fun i hi => w1.off hl i hi⟩⟩, ?_⟩
  rintro i mm H' ⟨rfl, hle, acc, B', hI, g', a'⟩
  obtain ⟨hgo, hst⟩ := hJ B' H' i g'.b g'.w hle
  by_cases hlt : i < ps.length
  · obtain ⟨go, yl⟩ := hgo ps[i] (List.getElem?_eq_getElem hlt)
    refine .inr ⟨go, Wx (i + 1), fun H2 h2 => ⟨ps.length - (i + 1), by omega, rfl, hlt, h2⟩, fun x H2 y => ?_⟩
    obtain ⟨B2, g2, r2⟩ := yl x H2 y
    have w2 := ((w1.gr g').gr g2).wipe vs
    have a2 := a'.stp (G' := G1) (g2.stp (G := G1))
    refine hg.run w2 r2 (turn i ps[i] acc (List.getElem?_eq_getElem hlt) hI) fun env3 σ3 G3 q3 w3 g3 p3 => ?_
    refine ⟨wipe_pin p3 hσ, ?_⟩
    have ap3 : ∀ i, l ∉ G3 i := fun i hi => by
      obtain ⟨j, hj⟩ := g3 i l hi
      exact a2.ap j (wipeG_sub hj)
    refine ht.run w3 q3 fun bb env4 B4 H4 G4 q4 w4 s4 u4 => ?_
    obtain ⟨_, rfl, g4⟩ := u4 rfl
    have a4 : Acc K B4 H4 G1 l acc := by
      obtain ⟨z1, z2, z3⟩ := (show Acc K _ _ _ l acc from ⟨a2.at_, a2.nb, ap3⟩).stp s4
      exact ⟨z1, z2, a2.ap⟩
    cases bb with
    | true =>
      replace q4 := q4.1 rfl
      rw [if_pos rfl]
      refine he.run w4 q4 fun p5 env5 v5 B5 H5 G5 q5 w5 r5 s5 u5 => ?_
      obtain ⟨_, rfl, g5⟩ := u5 rfl
      have gg := ((g'.trans g2).trans g4).trans g5
      have a5 : Acc K B5 H5 G1 l acc := a4.stp (g5.stp (G := G1))
      obtain ⟨vs5, h5, rp5⟩ := a5.at_
      refine ⟨vs5, h5, by rw [rp5.length]; exact q5.1, acc ++ [p5], B5, q5.2, ?_, ⟨⟨_, upd_same, rp5.append (RpA.one r5)⟩, a5.nb, a5.ap⟩⟩
      exact ⟨gg.b, fun a o h => by rw [upd_ne (ne_of_none h hl)]; exact gg.h a o h, fun a o h => by rw [upd_ne (ne_of_none h a5.nb)]; exact gg.w a o h, gg.n⟩
    | false =>
      replace q4 := q4.2 rfl
      rw [if_neg Bool.false_ne_true]
      exact ⟨acc, B4, q4, (g'.trans g2).trans g4, a4⟩
  · have e : i = ps.length := by omega
    subst e
    obtain ⟨vs5, h5, rp5⟩ := a'.at_
    exact .inl ⟨hst (Nat.le_refl _), k (.ol acc) env1 (.ref l) [l] B' H' G1 (done acc hI) (w1.gr g') ⟨⟨l, vs5, rfl, rfl, h5, rp5⟩, by simp, fun a ha => by rw [List.mem_singleton.mp ha]; exact a'.nb, fun a ha => by
      rw [List.mem_singleton.mp ha]
      exact .inr (s1.back hl), fun a ha j hj => by rw [List.mem_singleton.mp ha] at hj; exact a'.ap j hj⟩ (s1.trans g'.stp) (u1.trans (.gr g'))⟩⟩
end
end DL
set_option Elab.async false
set_option linter.all false
set_option maxRecDepth 100000
namespace DL
open PySem PySem.Spec L2
section
variable [Rf]
/-! ### what a def promises, over data -/
theorem Stp.cut {B H B' H' : Hp} {G G' G2 : Fp} (s : Stp B H G B' H' G') (h : ∀ i a, a ∈ G2 i → a ∈ G' i) : Stp B H G B' H' G2 := ⟨s.ex, s.kp, fun i a k => s.fp i a (h i a k), s.bs, s.th⟩
abbrev FSp := List D → (D → List D → Prop) → Prop
def spD (K : PySem.W.Frag) (fs : FSp) : Sp := fun vs H Q _ => ∃ B ds G QD, Wd0 K B H (vs.map some) (ds.map some) G ∧ fs ds QD ∧
  ∀ d ds' v F B' H' G', QD d ds' → Wd0 K B' H' (vs.map some) (ds'.map some) G' → Own K H G B' H' G' d v F → Stp B H G B' H' G' → Q v H'
/-- the arguments' data -/
def argD (env : Env) : AR → D
  | .inl p => .sh p
  | .inr i => match env[i]? with
    | some (some d) => d
    | _ => .sh .non
theorem argD_at {env : Env} {i : Nat} {d : D} (h : env[i]? = some (some d)) : argD env (.inr i) = d := by
  show (match env[i]? with | some (some d) => d | _ => D.sh .non) = d
  rw [h]
def slots : List AR → List Nat
  | [] => []
  | .inl _ :: as => slots as
  | .inr i :: as => i :: slots as
def has (env : Env) (i : Nat) : Bool := match env[i]? with
  | some (some _) => true
  | _ => false
def argsOk (as : List AR) (env : Env) : Bool := decide (slots as).Nodup && (slots as).all (has env)
def updS (env : Env) : List AR → List D → Env
  | .inl _ :: as, _ :: ds => updS env as ds
  | .inr i :: as, d :: ds => updS (env.set i (some d)) as ds
  | _, _ => env
theorem mem_slots {i : Nat} : ∀ {as : List AR}, i ∈ slots as ↔ ∃ j : Nat, as[j]? = some (Sum.inr i)
  | [] => by simp [slots]
  | .inl p :: as => by
    rw [show slots (.inl p :: as) = slots as from rfl, mem_slots]
    constructor
    · rintro ⟨j, h⟩; exact ⟨j + 1, h⟩
    · rintro ⟨j, h⟩
      cases j with
      | zero => cases h
      | succ j => exact ⟨j, h⟩
  | .inr k :: as => by
    rw [show slots (.inr k :: as) = k :: slots as from rfl, List.mem_cons, mem_slots]
    constructor
    · rintro (rfl | ⟨j, h⟩)
      · exact ⟨0, rfl⟩
      · exact ⟨j + 1, h⟩
    · rintro ⟨j, h⟩
      cases j with
      | zero => cases h; exact .inl rfl
      | succ j => exact .inr ⟨j, h⟩
theorem slots_inj {i j k : Nat} : ∀ {as : List AR}, (slots as).Nodup → as[j]? = some (.inr i) → as[k]? = some (.inr i) → j = k
  | [], _, h, _ => by simp at h
  | .inl p :: as, nd, h1, h2 => by
    cases j with
    | zero => cases h1
    | succ j =>
      cases k with
      | zero => cases h2
      | succ k => rw [slots_inj (as := as) nd h1 h2]
  | .inr q :: as, nd, h1, h2 => by
    have nd' := List.nodup_cons.mp nd
    cases j with
    | zero =>
      cases h1
      cases k with
      | zero => rfl
      | succ k => exact absurd (mem_slots.mpr ⟨k, h2⟩) nd'.1
    | succ j =>
      cases k with
      | zero => cases h2; exact absurd (mem_slots.mpr ⟨j, h1⟩) nd'.1
      | succ k => rw [slots_inj (as := as) nd'.2 h1 h2]
theorem updS_len : ∀ {as : List AR} {ds : List D} {env : Env}, (updS env as ds).length = env.length
  | [], _, _ => rfl
  | .inl _ :: _, [], _ => rfl
  | .inr _ :: _, [], _ => rfl
  | .inl _ :: as, _ :: ds, env => updS_len (as := as)
  | .inr i :: as, d :: ds, env => by
    show (updS (env.set i (some d)) as ds).length = _
    rw [updS_len, List.length_set]
theorem updS_out {i : Nat} : ∀ {as : List AR} {ds : List D} {env : Env}, i ∉ slots as → (updS env as ds)[i]? = env[i]?
  | [], _, _, _ => rfl
  | .inl _ :: _, [], _, _ => rfl
  | .inr _ :: _, [], _, _ => rfl
  | .inl _ :: as, _ :: ds, env, h => updS_out (as := as) h
  | .inr j :: as, d :: ds, env, h => by
    have h' : i ≠ j ∧ i ∉ slots as := ⟨fun q => h (by rw [q]; exact List.mem_cons_self), fun q => h (List.mem_cons_of_mem _ q)⟩
    show (updS (env.set j (some d)) as ds)[i]? = _
    rw [updS_out h'.2, List.getElem?_set_ne fun e => h'.1 e.symm]
theorem updS_in {i : Nat} : ∀ {as : List AR} {ds : List D} {env : Env} {j : Nat}, (slots as).Nodup → ds.length = as.length → i < env.length → as[j]? = some (.inr i) → (updS env as ds)[i]? = ds[j]?.map some
  | [], _, _, _, _, _, _, h => by simp at h
  | .inl _ :: _, [], _, _, _, h, _, _ => by simp at h
  | .inr _ :: _, [], _, _, _, h, _, _ => by simp at h
  | .inl _ :: as, _ :: ds, env, j, nd, hl, hi, h => by
    cases j with
    | zero => cases h
    | succ j => exact updS_in (as := as) (ds := ds) nd (by simpa using hl) hi h
  | .inr q :: as, d :: ds, env, j, nd, hl, hi, h => by
    have nd' := List.nodup_cons.mp nd
    show (updS (env.set q (some d)) as ds)[i]? = _
    cases j with
    | zero =>
      cases h
      rw [updS_out nd'.1, List.getElem?_set_self hi]
      rfl
    | succ j => exact updS_in (as := as) (ds := ds) nd'.2 (by simpa using hl) (by rw [List.length_set]; exact hi) h
theorem RpX.len {K : PySem.W.Frag} {B : Hp} {σ : L2.St} : ∀ {as : List AR} {vs : List V}, RpX K B σ as vs → vs.length = as.length
  | [], _, h => by rw [show _ = [] from h]; rfl
  | .inl p :: as, _, ⟨v, r, e1, _, e3⟩ => by rw [e1, List.length_cons, List.length_cons, RpX.len e3]
  | .inr i :: as, _, ⟨v, r, e1, _, e3⟩ => by rw [e1, List.length_cons, List.length_cons, RpX.len e3]
theorem RpX.inl {K : PySem.W.Frag} {B : Hp} {σ : L2.St} {p : P} : ∀ {as : List AR} {vs : List V} {j : Nat}, RpX K B σ as vs → as[j]? = some (.inl p) → ∃ v, vs[j]? = some v ∧ Rp K B p v
  | [], _, _, _, h => by simp at h
  | .inl q :: as, _, j, ⟨v, r, e1, e2, e3⟩, h => by
    cases j with
    | zero => cases h; exact ⟨v, by rw [e1]; rfl, e2⟩
    | succ j => obtain ⟨u, h1, h2⟩ := RpX.inl e3 h; exact ⟨u, by rw [e1]; exact h1, h2⟩
  | .inr q :: as, _, j, ⟨v, r, e1, e2, e3⟩, h => by
    cases j with
    | zero => cases h
    | succ j => obtain ⟨u, h1, h2⟩ := RpX.inl e3 h; exact ⟨u, by rw [e1]; exact h1, h2⟩
theorem RpX.inr {K : PySem.W.Frag} {B : Hp} {σ : L2.St} {i : Nat} : ∀ {as : List AR} {vs : List V} {j : Nat}, RpX K B σ as vs → as[j]? = some (.inr i) → ∃ v, vs[j]? = some v ∧ σ[i]? = some (some v)
  | [], _, _, _, h => by simp at h
  | .inl q :: as, _, j, ⟨v, r, e1, e2, e3⟩, h => by
    cases j with
    | zero => cases h
    | succ j => obtain ⟨u, h1, h2⟩ := RpX.inr e3 h; exact ⟨u, by rw [e1]; exact h1, h2⟩
  | .inr q :: as, _, j, ⟨v, r, e1, e2, e3⟩, h => by
    cases j with
    | zero => cases h; exact ⟨v, by rw [e1]; rfl, e2⟩
    | succ j => obtain ⟨u, h1, h2⟩ := RpX.inr e3 h; exact ⟨u, by rw [e1]; exact h1, h2⟩
def argG (as : List AR) (G : Fp) : Fp := fun j => match as[j]? with
  | some (.inr i) => G i
  | _ => []
theorem argG_in {as : List AR} {G : Fp} {j : Nat} {a : Addr} (h : a ∈ argG as G j) : ∃ i, as[j]? = some (.inr i) ∧ a ∈ G i := by
  unfold argG at h
  split at h
  · rename_i i hi; exact ⟨i, hi, h⟩
  · cases h
theorem has_some {env : Env} {i : Nat} (h : has env i = true) : ∃ d, env[i]? = some (some d) := by
  unfold has at h
  split at h
  · rename_i d hd; exact ⟨d, hd⟩
  · cases h
/-- the callee's world -/
theorem Wd.args {K : PySem.W.Frag} {B H : Hp} {σ : L2.St} {env : Env} {G : Fp} {as : List AR} {vs : List V} (w : Wd K B H σ env G) (r : RpX K B σ as vs) (ok : argsOk as env = true) :
    Wd0 K B H (vs.map some) ((as.map (argD env)).map some) (argG as G) := by
  unfold argsOk at ok
  rw [Bool.and_eq_true] at ok
  have nd := of_decide_eq_true ok.1
  have hh : ∀ i ∈ slots as, ∃ d, env[i]? = some (some d) := fun i hi => has_some (List.all_eq_true.mp ok.2 i hi)
  refine ⟨w.ex, fun j d e => ?_, fun j hn => ?_, fun j => ?_, fun j k a ha hb => ?_, fun j a ha => ?_, by rw [List.length_map, List.length_map, List.length_map, r.len]⟩
  · rw [List.getElem?_map, List.getElem?_map] at e
    cases ha : as[j]? with
    | none => rw [ha] at e; cases e
    | some x =>
      rw [ha] at e
      cases x with
      | inl p =>
        have e' : D.sh p = d := Option.some.inj (Option.some.inj e)
        subst e'
        obtain ⟨v, h1, h2⟩ := r.inl ha
        exact ⟨v, by rw [List.getElem?_map, h1]; rfl, by unfold argG; rw [ha], h2⟩
      | inr i =>
        obtain ⟨d0, h0⟩ := hh i (mem_slots.mpr ⟨j, ha⟩)
        have e' : argD env (.inr i) = d := Option.some.inj (Option.some.inj e)
        have e'' : d0 = d := by rw [argD_at h0] at e'; exact e'
        subst e''
        obtain ⟨v, h1, h2⟩ := r.inr ha
        obtain ⟨v', g1, g2⟩ := w.sl i _ h0
        rw [h2] at g1
        cases g1
        exact ⟨v, by rw [List.getElem?_map, h1]; rfl, by unfold argG; rw [ha]; exact g2⟩
  · unfold argG
    split
    · rename_i i hi
      exfalso
      refine hn (argD env (.inr i)) ?_
      rw [List.getElem?_map, List.getElem?_map, hi]
      rfl
    · rfl
  · unfold argG
    split
    · exact w.nd _
    · exact List.nodup_nil
  · obtain ⟨i, h1, h2⟩ := argG_in ha
    obtain ⟨i', h3, h4⟩ := argG_in hb
    have := w.dj i i' a h2 h4
    subst this
    exact slots_inj nd h1 h3
  · obtain ⟨i, h1, h2⟩ := argG_in ha
    exact w.nb i a h2
/-- the caller's own objects behind the call -/
def backG (as : List AR) (G G' : Fp) : Fp := fun i => match as.findIdx? (fun x => match x with | .inr j => j == i | _ => false) with
  | some j => G' j
  | none => G i
theorem find_slot {as : List AR} {i : Nat} : (∃ j, as.findIdx? (fun x => match x with | .inr j => j == i | _ => false) = some j ∧ as[j]? = some (.inr i)) ∨ (as.findIdx? (fun x => match x with | .inr j => j == i | _ => false) = none ∧ i ∉ slots as) := by
  cases h : as.findIdx? (fun x => match x with | .inr j => j == i | _ => false) with
  | some j =>
    left
    refine ⟨j, rfl, ?_⟩
    obtain ⟨hlt, hx, _⟩ := List.findIdx?_eq_some_iff_getElem.mp h
    rw [List.getElem?_eq_getElem hlt]
    cases e : as[j] with
    | inl p => rw [e] at hx; cases hx
    | inr q => rw [e] at hx; rw [beq_iff_eq.mp hx]
  | none =>
    right
    refine ⟨rfl, fun hm => ?_⟩
    obtain ⟨j, hj⟩ := mem_slots.mp hm
    have := List.findIdx?_eq_none_iff.mp h (.inr i) (List.mem_of_getElem? hj)
    simp at this
theorem Wd.after {K : PySem.W.Frag} {B H B' H' : Hp} {σ : L2.St} {env : Env} {G G' : Fp} {as : List AR} {vs : List V} {ds : List D} (w : Wd K B H σ env G) (r : RpX K B σ as vs) (ok : argsOk as env = true)
    (w' : Wd0 K B' H' (vs.map some) (ds.map some) G') (s : Stp B H (argG as G) B' H' G') :
    Wd K B' H' σ (updS env as ds) (backG as G G') ∧ Stp B H G B' H' (backG as G G') ∧ (∀ a i, a ∈ backG as G G' i → (∃ j, a ∈ G' j) ∨ (a ∈ G i ∧ i ∉ slots as)) := by
  unfold argsOk at ok
  rw [Bool.and_eq_true] at ok
  have nd := of_decide_eq_true ok.1
  have hh : ∀ i ∈ slots as, ∃ d, env[i]? = some (some d) := fun i hi => has_some (List.all_eq_true.mp ok.2 i hi)
  have hl : ds.length = as.length := by
    have := w'.len
    rw [List.length_map, List.length_map, r.len] at this
    exact this
  have keep : ∀ i a, a ∈ G i → i ∉ slots as → (∀ j, a ∉ argG as G j) := fun i a ha hn j hj => by
    obtain ⟨i', h1, h2⟩ := argG_in hj
    have := w.dj i i' a ha h2
    subst this
    exact hn (mem_slots.mpr ⟨j, h1⟩)
  have there : ∀ i a, a ∈ G i → ∃ o, H a = some o := fun i a ha => by
    by_cases hx : ∃ d, env[i]? = some (some d)
    · obtain ⟨d, hd⟩ := hx
      obtain ⟨v', h1, h2⟩ := w.sl i d hd
      exact RpD.there h2 a ha
    · rw [w.no i fun d e => hx ⟨d, e⟩] at ha; cases ha
  have mem : ∀ a i, a ∈ backG as G G' i → (∃ j, as[j]? = some (.inr i) ∧ a ∈ G' j) ∨ (a ∈ G i ∧ i ∉ slots as) := fun a i ha => by
    unfold backG at ha
    rcases find_slot (as := as) (i := i) with ⟨j, h1, h2⟩ | ⟨h1, h2⟩
    · rw [h1] at ha; exact .inl ⟨j, h2, ha⟩
    · rw [h1] at ha; exact .inr ⟨ha, h2⟩
  refine ⟨⟨⟨w'.ex, fun i d e => ?_, fun i hn => ?_, fun i => ?_, fun i j a ha hb => ?_, fun i a ha => ?_, by rw [updS_len]; exact w.len⟩, w.rf.trans s.ex⟩, ⟨s.ex, fun a o h n => s.kp a o h fun j hj => ?_, fun i a ha => ?_, fun a o h hb n => s.bs a o h hb fun j hj => ?_, s.th⟩, fun a i ha => (mem a i ha).imp (fun ⟨j, _, h⟩ => ⟨j, h⟩) id⟩
  · rcases find_slot (as := as) (i := i) with ⟨j, h1, h2⟩ | ⟨h1, h2⟩
    · obtain ⟨d0, h0⟩ := hh i (mem_slots.mpr ⟨j, h2⟩)
      rw [updS_in nd hl (env_lt h0) h2] at e
      obtain ⟨v, g1, g2⟩ := w'.sl j d (by rw [List.getElem?_map]; exact e)
      obtain ⟨v', k1, k2⟩ := r.inr h2
      rw [List.getElem?_map, k1] at g1
      cases g1
      refine ⟨_, k2, ?_⟩
      unfold backG
      rw [h1]
      exact g2
    · rw [updS_out h2] at e
      obtain ⟨v, g1, g2⟩ := w.sl i d e
      refine ⟨v, g1, ?_⟩
      unfold backG
      rw [h1]
      exact RpD.mono s.ex g2 fun a ha o ho => s.kp a o ho (keep i a ha h2)
  · rcases find_slot (as := as) (i := i) with ⟨j, h1, h2⟩ | ⟨h1, h2⟩
    · obtain ⟨d0, h0⟩ := hh i (mem_slots.mpr ⟨j, h2⟩)
      exfalso
      have hj : j < ds.length := by rw [hl]; exact (List.getElem?_eq_some_iff.mp h2).1
      refine hn ds[j] ?_
      rw [updS_in nd hl (env_lt h0) h2, List.getElem?_eq_getElem hj]
      rfl
    · unfold backG
      rw [h1]
      refine w.no i fun d e => hn d ?_
      rw [updS_out h2]; exact e
  · unfold backG
    split
    · exact w'.nd _
    · exact w.nd _
  · rcases mem a i ha with ⟨k, k1, k2⟩ | ⟨k1, k2⟩
    · rcases mem a j hb with ⟨l, l1, l2⟩ | ⟨l1, l2⟩
      · have := w'.dj k l a k2 l2
        subst this
        rw [k1] at l1
        cases l1
        rfl
      · rcases s.fp k a k2 with ⟨q, hq⟩ | hq
        · exact absurd hq (keep j a l1 l2 q)
        · obtain ⟨o, ho⟩ := there j a l1
          rw [ho] at hq; cases hq
    · rcases mem a j hb with ⟨l, l1, l2⟩ | ⟨l1, l2⟩
      · rcases s.fp l a l2 with ⟨q, hq⟩ | hq
        · exact absurd hq (keep i a k1 k2 q)
        · obtain ⟨o, ho⟩ := there i a k1
          rw [ho] at hq; cases hq
      · exact w.dj i j a k1 l1
  · rcases mem a i ha with ⟨k, k1, k2⟩ | ⟨k1, k2⟩
    · exact w'.nb k a k2
    · obtain ⟨o, ho⟩ := there i a k1
      exact s.bs a o ho (w.nb i a k1) (keep i a k1 k2)
  · obtain ⟨i, h1, h2⟩ := argG_in hj
    exact n i h2
  · rcases mem a i ha with ⟨k, k1, k2⟩ | ⟨k1, k2⟩
    · rcases s.fp k a k2 with ⟨q, hq⟩ | hq
      · obtain ⟨i', h1, h2⟩ := argG_in hq
        exact .inl ⟨i', h2⟩
      · exact .inr hq
    · exact .inl ⟨i, k1⟩
  · obtain ⟨i, h1, h2⟩ := argG_in hj
    exact n i h2
section
variable {pn : List Nat} {m : Bool} {K : PySem.W.Frag} {ta : TA} {da : dA} {X : Cx} {e a : Expr} {es : List Expr}
def dCall (fs : FSp) (da : dA) : dO := fun env Q => da env fun as e => argsOk as e = true ∧ fs (as.map (argD e)) fun d ds => Q d (updS e as ds)
theorem snd_call {fs : FSp} {E : XK} (h : SndA m K ta da) : SndO false K (tCall (spD K fs) [] E ta) (dCall fs da) := ⟨fun {B H σ env G QD Q} w q k => by
  refine h.run w q fun as e vs B1 H1 G1 q1 w1 r1 s1 _ => ?_
  obtain ⟨ok, q1⟩ := q1
  show spD K fs (vs ++ []) H1 Q E
  rw [List.append_nil]
  refine ⟨B1, _, _, _, w1.args r1 ok, q1, fun d ds v F B2 H2 G2 q2 w2 o2 s2 => ?_⟩
  obtain ⟨w3, s3, m3⟩ := w1.after r1 ok w2 s2
  refine k d _ v F B2 H2 _ q2 w3 ⟨o2.rp, o2.nd, o2.nb, fun x hx => ?_, fun x hx i hi => ?_⟩ (s1.trans s3) .off
  · rcases o2.nw x hx with ⟨j, hj⟩ | hn
    · obtain ⟨i, _, h2⟩ := argG_in hj
      exact s1.fp i x h2
    · exact .inr (s1.back hn)
  · rcases m3 x i hi with ⟨j, hj⟩ | ⟨h1, h2⟩
    · exact o2.ap x hx j hj
    · rcases o2.nw x hx with ⟨j, hj⟩ | hn
      · obtain ⟨i', g1, g2⟩ := argG_in hj
        have := w1.dj i i' x h1 g2
        subst this
        exact h2 (mem_slots.mpr ⟨j, g1⟩)
      · exact w1.off hn i h1⟩
/-- a call that changes none of its arguments -/
def dCallP (fs : FSp) (da : dA) : dO := fun env Q => da env fun as e => slots as = [] ∧ fs (as.map (argD e)) fun d _ => Q d e
theorem prs_of : ∀ {as : List AR}, slots as = [] → ∃ ps, prs as = some ps
  | [], _ => ⟨[], rfl⟩
  | .inl p :: as, h => by
    obtain ⟨ps, e⟩ := prs_of (as := as) h
    exact ⟨p :: ps, by unfold prs; rw [e]; rfl⟩
  | .inr _ :: _, h => by cases h
theorem snd_callP {fs : FSp} {E : XK} (h : SndA m K ta da) : SndO m K (tCall (spD K fs) [] E ta) (dCallP fs da) := ⟨fun {B H σ env G QD Q} w q k => by
  refine h.run w q fun as e vs B1 H1 G1 q1 w1 r1 s1 u1 => ?_
  obtain ⟨hs, q1⟩ := q1
  have ok : argsOk as e = true := by unfold argsOk; rw [hs]; rfl
  show spD K fs (vs ++ []) H1 Q E
  rw [List.append_nil]
  have gz : ∀ j x, x ∉ argG as G1 j := fun j x hx => by
    obtain ⟨i, h1, _⟩ := argG_in hx
    have := mem_slots.mpr ⟨j, h1⟩
    rw [hs] at this; cases this
  refine ⟨B1, _, _, _, w1.args r1 ok, q1, fun d ds v F B2 H2 G2 q2 w2 o2 s2 => ?_⟩
  have g : Gr B1 H1 B2 H2 := ⟨s2.ex, fun x o hx => s2.kp x o hx fun j => gz j x, w2.ex, fun x o hx hn => s2.bs x o hx hn fun j => gz j x⟩
  refine k d _ v F B2 H2 G1 q2 (w1.gr g) ⟨o2.rp, o2.nd, o2.nb, fun x hx => ?_, fun x hx i hi => ?_⟩ (s1.trans g.stp) (u1.trans (.gr g))
  · rcases o2.nw x hx with ⟨j, hj⟩ | hn
    · exact absurd hj (gz j x)
    · exact .inr (s1.back hn)
  · rcases o2.nw x hx with ⟨j, hj⟩ | hn
    · exact absurd hj (gz j x)
    · exact w1.off hn i hi⟩
theorem do_call {fs : FSp} {E : XK} {e0 : Expr} (h : PA X (e0 :: es) ta → PE X a (tCall (spD X.K fs) [] E ta)) (ha : DA m X (e0 :: es) ta da) : DO false X a (tCall (spD X.K fs) [] E ta) (dCall fs da) := ⟨h ha.pe, snd_call ha.sd⟩
theorem do_callP {fs : FSp} {E : XK} {e0 : Expr} (h : PA X (e0 :: es) ta → PE X a (tCall (spD X.K fs) [] E ta)) (ha : DA m X (e0 :: es) ta da) : DO m X a (tCall (spD X.K fs) [] E ta) (dCallP fs da) := ⟨h ha.pe, snd_callP ha.sd⟩
end
/-! ### a def -/
def back (pn : List Nat) (env : Env) : Nat → List D → List D
  | _, [] => []
  | i, d :: ds => (if pn.contains i then argD env (.inr i) else d) :: back pn env (i + 1) ds
def startE (N : List Str) (ds : List D) : Env := ds.map some ++ List.replicate (N.length - ds.length) none
def isSh : D → Bool
  | .sh _ => true
  | _ => false
/-- the parameters that are not lent are plain -/
def lentOk (pn : List Nat) : Nat → List D → Bool
  | _, [] => true
  | i, d :: ds => (pn.contains i || isSh d) && lentOk pn (i + 1) ds
theorem back_get {pn : List Nat} {env : Env} : ∀ {ds : List D} {i j : Nat}, (back pn env i ds)[j]? = ds[j]?.map fun d => if pn.contains (i + j) then argD env (.inr (i + j)) else d
  | [], _, _ => by simp [back]
  | d :: ds, i, 0 => by rfl
  | d :: ds, i, j + 1 => by
    show (back pn env (i + 1) ds)[j]? = _
    rw [back_get, show i + 1 + j = i + (j + 1) by omega]
    rfl
theorem back_len {pn : List Nat} {env : Env} : ∀ {ds : List D} {i : Nat}, (back pn env i ds).length = ds.length
  | [], _ => rfl
  | d :: ds, i => by show (back pn env (i + 1) ds).length + 1 = _; rw [back_len]; rfl
theorem lent_at {pn : List Nat} : ∀ {ds : List D} {i j : Nat} {d : D}, lentOk pn i ds = true → ds[j]? = some d → pn.contains (i + j) = true ∨ isSh d = true
  | [], _, _, _, _, h => by simp at h
  | d :: ds, i, 0, d', h, e => by
    cases Option.some.inj e
    have h' : (pn.contains i || isSh d) = true ∧ lentOk pn (i + 1) ds = true := by rw [← Bool.and_eq_true]; exact h
    rw [Bool.or_eq_true] at h'
    exact h'.1
  | d :: ds, i, j + 1, d', h, e => by
    have h' : (pn.contains i || isSh d) = true ∧ lentOk pn (i + 1) ds = true := by rw [← Bool.and_eq_true]; exact h
    have := lent_at (i := i + 1) (j := j) h'.2 e
    rw [show i + 1 + j = i + (j + 1) by omega] at this
    exact this
theorem startE_get {N : List Str} {ds : List D} {i : Nat} {d : D} (h : (startE N ds)[i]? = some (some d)) : ds[i]? = some d := by
  unfold startE at h
  by_cases hi : i < ds.length
  · rw [List.getElem?_append_left (by simpa using hi), List.getElem?_map] at h
    cases e : ds[i]? with
    | none => rw [e] at h; cases h
    | some x => rw [e] at h; cases h; rfl
  · rw [List.getElem?_append_right (by simpa using hi), List.getElem?_replicate] at h
    split at h <;> cases h
theorem Wd.start {K : PySem.W.Frag} {B H : Hp} {vs : List V} {ds : List D} {G : Fp} {N : List Str} (w : Wd0 K B H (vs.map some) (ds.map some) G) (rf : Ex Rf.R B) : Wd K B H (L2.start N vs) (startE N ds) G := by
  have hl : ds.length = vs.length := by have := w.len; rw [List.length_map, List.length_map] at this; exact this
  refine ⟨⟨w.ex, fun i d e => ?_, fun i hn => ?_, w.nd, w.dj, w.nb, ?_⟩, rf⟩
  · have e' := startE_get e
    obtain ⟨v, h1, h2⟩ := w.sl i d (by rw [List.getElem?_map, e']; rfl)
    refine ⟨v, ?_, h2⟩
    unfold L2.start
    rw [List.getElem?_append_left (by rw [List.length_map, ← hl]; exact (List.getElem?_eq_some_iff.mp e').1)]
    exact h1
  · refine w.no i fun d e => hn d ?_
    unfold startE
    rw [List.getElem?_append_left (env_lt e)]
    exact e
  · unfold startE L2.start
    rw [List.length_append, List.length_append, List.length_map, List.length_map, List.length_replicate, List.length_replicate, hl]
theorem Wd.back {K : PySem.W.Frag} {B H B' H' : Hp} {vs : List V} {ds : List D} {G G' : Fp} {N : List Str} {pn : List Nat} {env' : Env} {σ' : L2.St} (w : Wd0 K B H (vs.map some) (ds.map some) G) (hb : Ex B B')
    (w' : Wd K B' H' σ' env' G') (p : Pin pn (L2.start N vs) σ') (hl : lentOk pn 0 ds = true) (hp : pn.all (has env') = true) :
    Wd0 K B' H' (vs.map some) ((DL.back pn env' 0 ds).map some) (fun i => if pn.contains i ∧ i < ds.length then G' i else []) := by
  have hlen : ds.length = vs.length := by have := w.len; rw [List.length_map, List.length_map] at this; exact this
  refine ⟨w'.ex, fun i d e => ?_, fun i hn => ?_, fun i => ?_, fun i j a ha hb => ?_, fun i a ha => ?_, by rw [List.length_map, List.length_map, back_len, hlen]⟩
  · rw [List.getElem?_map, back_get] at e
    cases hd : ds[i]? with
    | none => rw [hd] at e; cases e
    | some d0 =>
      rw [hd] at e
      have e' : (if pn.contains (0 + i) then argD env' (.inr (0 + i)) else d0) = d := Option.some.inj (Option.some.inj e)
      rw [Nat.zero_add] at e'
      have hi : i < ds.length := (List.getElem?_eq_some_iff.mp hd).1
      obtain ⟨v, h1, h2⟩ := w.sl i d0 (by rw [List.getElem?_map, hd]; rfl)
      refine ⟨v, h1, ?_⟩
      by_cases hc : pn.contains i = true
      · rw [if_pos hc] at e'
        rw [if_pos ⟨hc, hi⟩]
        have hm : i ∈ pn := by simpa using hc
        obtain ⟨d1, hd1⟩ := has_some (List.all_eq_true.mp hp i hm)
        have e'' : d1 = d := by rw [argD_at hd1] at e'; exact e'
        subst e''
        obtain ⟨v', g1, g2⟩ := w'.sl i _ hd1
        rw [p.2 i hm] at g1
        unfold L2.start at g1
        rw [List.getElem?_append_left (by rw [List.length_map, ← hlen]; exact hi), h1] at g1
        cases g1
        exact g2
      · rw [if_neg hc] at e'
        rw [if_neg fun q => hc q.1]
        subst e'
        rcases lent_at (i := 0) (j := i) hl hd with h | h
        · rw [Nat.zero_add] at h; exact absurd h hc
        · cases d0 with
          | sh p => exact ⟨rfl, Rp.mono hb p h2.2⟩
          | _ => cases h
  · show (if pn.contains i ∧ i < ds.length then G' i else []) = []
    split
    · rename_i hc
      exfalso
      refine hn (argD env' (.inr i)) ?_
      rw [List.getElem?_map, back_get, List.getElem?_eq_getElem hc.2, Nat.zero_add]
      show some (some (if pn.contains i then argD env' (.inr i) else ds[i])) = _
      rw [if_pos hc.1]
    · rfl
  · show (if pn.contains i ∧ i < ds.length then G' i else []).Nodup
    split
    · exact w'.nd i
    · exact List.nodup_nil
  · change a ∈ (if pn.contains i ∧ i < ds.length then G' i else []) at ha
    change a ∈ (if pn.contains j ∧ j < ds.length then G' j else []) at hb
    split at ha
    · split at hb
      · exact w'.dj i j a ha hb
      · cases hb
    · cases ha
  · change a ∈ (if pn.contains i ∧ i < ds.length then G' i else []) at ha
    split at ha
    · exact w'.nb i a ha
    · cases ha
end
section
variable {P' : Program} {w' : World} {K : PySem.W.Frag} {mg : Str → Option Value} {base : Heap}
/-- a def keeps its promise over data -/
theorem Fun.okD {x qual : Str} {st : Stmt} {f : Addr} {fd : FuncData} {N ps : List Str} {k : Nat} {fs : FSp} (pn : List Nat) (F : L2.Fun K x qual st f fd) (S : FnScope N ps (defScope st)) (len : ∀ ds QD, fs ds QD → ds.length = ps.length ∧ lentOk pn 0 ds = true)
    (hbody : ∀ (cdv : Value) (A : Around) (outer : List PySem.Env) (s : Shared) (H : Hp) (E : XK), Room k (A.deeper (PyProof.Rows.envOfC qual (defScope st) s.heap.objs.size f cdv)) →
      ∃ ts dS', DSs pn (cxOf CX0 P' w' K mg base N qual (defScope st) f cdv A outer s H E).nox (defBody st) ts dS' ∧ ∀ ds QD, fs ds QD →
        dS' { nx := fun env => pn.all (has env) = true ∧ QD (.sh .non) (back pn env 0 ds), rt := fun d env => pn.all (has env) = true ∧ QD d (back pn env 0 ds) } (startE N ds)) :
    FnOk P' w' K mg base CX0 (k + 1) f fd ps (spD K fs) := by
  refine F.ok S (fun vs H Q E h => ?_) (fun cdv A outer s H vs Q E hr h => ?_)
  · obtain ⟨B, ds, G, QD, w, h, _⟩ := h
    have := w.len
    rw [List.length_map, List.length_map] at this
    rw [← this]
    exact (len ds QD h).1
  · obtain ⟨B, ds, G, QD, w, h, q⟩ := h
    obtain ⟨ts, dS', hd, hr'⟩ := hbody cdv A outer s H E hr
    have hl := (len ds QD h).2
    refine ⟨ts, hd.pe, hd.sd.run (D := { nx := fun _ H' => Q .non H', rt := Q }) (Wd.start (N := N) w (rf0_ex B)) (hr' ds QD h) ?_ ?_ (fun _ _ _ _ _ h => h.elim) (fun _ _ _ _ _ h => h.elim)⟩
    · intro env' σ' B' H' G' hq wq sq pq
      have wb := Wd.back w sq.ex wq pq hl hq.1
      exact q _ _ .non [] B' H' _ hq.2 wb ⟨⟨rfl, rfl⟩, List.nodup_nil, fun _ h => absurd h List.not_mem_nil, fun _ h => absurd h List.not_mem_nil, fun _ h => absurd h List.not_mem_nil⟩
        (sq.cut fun i a ha => by
          change a ∈ (if pn.contains i ∧ i < ds.length then G' i else []) at ha
          split at ha
          · exact ha
          · cases ha)
    · intro d env' σ' v F B' H' G' hq wq oq sq pq
      have wb := Wd.back w sq.ex wq pq hl hq.1
      refine q _ _ v F B' H' _ hq.2 wb ⟨oq.rp, oq.nd, oq.nb, oq.nw, fun a ha i hi => ?_⟩ (sq.cut fun i a ha => ?_)
      · change a ∈ (if pn.contains i ∧ i < ds.length then G' i else []) at hi
        split at hi
        · exact oq.ap a ha i hi
        · cases hi
      · change a ∈ (if pn.contains i ∧ i < ds.length then G' i else []) at ha
        split at ha
        · exact ha
        · cases ha
end
end DL
set_option Elab.async false
set_option linter.all false
set_option maxRecDepth 100000
namespace DL
open PySem PySem.Spec L2
variable [Rf]
section
variable {K : PySem.W.Frag}
/-! ### intsP -/
def dII (f : Int → Int → P) : P → P → (P → Prop) → Prop
  | .int i, .int j, Q => Q (f i j)
  | _, _, _ => False
def dIC (C : Int → Int → Prop) (f : Int → Int → P) : P → P → (P → Prop) → Prop
  | .int i, .int j, Q => C i j ∧ Q (f i j)
  | _, _, _ => False
/-- a value that is no object -/
def VP : V → P → Prop
  | .int i, .int j => i = j
  | .bl a, .bl b => a = b
  | .str a, .str b => a = b
  | .non, .non => True
  | _, _ => False
theorem VP.rp {v : V} {p : P} (h : VP v p) (B : Hp) : Rp K B p v := by
  cases v <;> cases p <;> first | exact h.elim | (cases h; rfl)
theorem os_I0 {g : Int → Int → V} {f : Int → Int → P} (h : ∀ i j, VP (g i j) (f i j)) : OpS K (rI0 g) (dII f) := ⟨fun {B H x y p q QD Q} e rx ry r k => by
  cases p with
  | int i =>
    cases q with
    | int j => exact ⟨i, j, rx, ry, k _ B H _ r ((h i j).rp B) (.refl e)⟩
    | _ => exact r.elim
  | _ => exact r.elim⟩
theorem os_I {C : Int → Int → Prop} {g : Int → Int → V} {f : Int → Int → P} (h : ∀ i j, VP (g i j) (f i j)) : OpS K (rI C g) (dIC C f) := ⟨fun {B H x y p q QD Q} e rx ry r k => by
  cases p with
  | int i =>
    cases q with
    | int j => exact ⟨i, j, rx, ry, r.1, k _ B H _ r.2 ((h i j).rp B) (.refl e)⟩
    | _ => exact r.elim
  | _ => exact r.elim⟩
abbrev dAdd := dII fun i j => .int (i + j)
abbrev dSub := dII fun i j => .int (i - j)
abbrev dMul := dIC CMulW fun i j => .int (i * j)
abbrev dMod := dIC (fun _ j => 0 < j) fun i j => .int (i % j)
abbrev dDiv := dIC CDivW fun i j => .int (i / j)
abbrev dPow := dIC CPow fun i j => .int (i ^ j.toNat)
abbrev dLt := dII fun i j => .bl (decide (i < j))
abbrev dLe := dII fun i j => .bl (decide (i ≤ j))
abbrev dGt := dII fun i j => .bl (decide (j < i))
abbrev dGe := dII fun i j => .bl (decide (j ≤ i))
theorem os_add : OpS K (rI0 fun i j => .int (i + j)) dAdd := os_I0 (by intro _ _; rfl)
theorem os_sub : OpS K (rI0 fun i j => .int (i - j)) dSub := os_I0 (by intro _ _; rfl)
theorem os_mul : OpS K (rI CMulW fun i j => .int (i * j)) dMul := os_I (by intro _ _; rfl)
theorem os_mod : OpS K (rI (fun _ j => 0 < j) fun i j => .int (i % j)) dMod := os_I (by intro _ _; rfl)
theorem os_div : OpS K (rI CDivW fun i j => .int (i / j)) dDiv := os_I (by intro _ _; rfl)
theorem os_pow : OpS K (rI CPow fun i j => .int (i ^ j.toNat)) dPow := os_I (by intro _ _; rfl)
theorem os_lt : OpS K (rI0 fun i j => .bl (decide (i < j))) dLt := os_I0 (by intro _ _; rfl)
theorem os_le : OpS K (rI0 fun i j => .bl (decide (i ≤ j))) dLe := os_I0 (by intro _ _; rfl)
theorem os_gt : OpS K (rI0 fun i j => .bl (decide (j < i))) dGt := os_I0 (by intro _ _; rfl)
theorem os_ge : OpS K (rI0 fun i j => .bl (decide (j ≤ i))) dGe := os_I0 (by intro _ _; rfl)
def dU (f : Int → P) : P → (P → Prop) → Prop
  | .int i, Q => Q (f i)
  | _, _ => False
theorem us_I {g : Int → V} {f : Int → P} (h : ∀ i, VP (g i) (f i)) : UnS K (rU g) (dU f) := ⟨fun {B H x p QD Q} e rx r k => by
  cases p with
  | int i => exact ⟨i, rx, k _ B H _ r ((h i).rp B) (.refl e)⟩
  | _ => exact r.elim⟩
abbrev dNeg := dU fun i => .int (-i)
theorem us_neg : UnS K (rU fun i => .int (-i)) dNeg := us_I (by intro _; rfl)

/-! ### == of what is no object -/
def dEq : P → P → (P → Prop) → Prop
  | .int i, .int j, Q => Q (.bl (decide (i = j)))
  | .str i, .str j, Q => Q (.bl (decide (i = j)))
  | .bl i, .bl j, Q => Q (.bl (decide (i = j)))
  | .non, .non, Q => Q (.bl true)
  | .non, .int _, Q => Q (.bl false)
  | .int _, .non, Q => Q (.bl false)
  | .non, .bl _, Q => Q (.bl false)
  | .bl _, .non, Q => Q (.bl false)
  | .non, .str _, Q => Q (.bl false)
  | .str _, .non, Q => Q (.bl false)
  | .int _, .str _, Q => Q (.bl false)
  | .str _, .int _, Q => Q (.bl false)
  | .bl _, .str _, Q => Q (.bl false)
  | .str _, .bl _, Q => Q (.bl false)
  | _, _, _ => False
def dNe (p q : P) (Q : P → Prop) : Prop := dEq p q fun z => match z with
  | .bl b => Q (.bl (!b))
  | _ => False
theorem dEq_sc {B : Hp} {p q : P} {x y : V} {QD : P → Prop} (rx : Rp K B p x) (ry : Rp K B q y) (h : dEq p q QD) : scal x y = true ∧ QD (.bl (decide (x = y))) := by
  cases p <;> cases q <;> first | exact h.elim | skip
  all_goals rw [show x = _ from rx, show y = _ from ry]
  all_goals refine ⟨rfl, ?_⟩
  all_goals first
    | exact h
    | (rw [show decide (V.int _ = V.int _) = decide _ from decide_eq_decide.mpr V.int.injEq.to_iff]; exact h)
    | (have := h; simp only [reduceCtorEq, decide_false, decide_true, V.int.injEq, V.str.injEq, V.bl.injEq] at this ⊢; exact this)
theorem os_eq : OpS K rEq dEq := ⟨fun {B H x y p q QD Q} e rx ry r k => by
  obtain ⟨h1, h2⟩ := dEq_sc rx ry r
  exact ⟨h1, k _ B H _ h2 rfl (.refl e)⟩⟩
theorem os_ne : OpS K rNe dNe := ⟨fun {B H x y p q QD Q} e rx ry r k => by
  obtain ⟨h1, h2⟩ := dEq_sc rx ry r
  exact ⟨h1, k _ B H _ h2 rfl (.refl e)⟩⟩
/-! ### is None -/
def isNon : P → Bool
  | .non => true
  | _ => false
def dIsN (p q : P) (Q : P → Prop) : Prop := match q with
  | .non => Q (.bl (isNon p))
  | _ => False
def dNotN (p q : P) (Q : P → Prop) : Prop := match q with
  | .non => Q (.bl (!isNon p))
  | _ => False
theorem isNon_rp {B : Hp} {p : P} {x : V} (r : Rp K B p x) : decide (x = V.non) = isNon p := by
  cases p with
  | lst ps => obtain ⟨a, vs, rfl, _⟩ := r; rfl
  | rol ps => obtain ⟨a, vs, rfl, _⟩ := r; rfl
  | tup ps => obtain ⟨a, vs, rfl, _⟩ := r; rfl
  | ins C fs => obtain ⟨a, dx, fv, rfl, _⟩ := r; rfl
  | dic kvs => obtain ⟨a, us, rfl, _⟩ := r; rfl
  | rng n => obtain ⟨a, rfl, _⟩ := r; rfl
  | _ => rw [show x = _ from r]; rfl
theorem os_isN : OpS K (fun x y H Q => y = .non ∧ Q (.bl (decide (x = .non))) H) dIsN := ⟨fun {B H x y p q QD Q} e rx ry r k => by
  cases q with
  | non => exact ⟨ry, k _ B H _ r (by rw [isNon_rp rx]; rfl) (.refl e)⟩
  | _ => exact r.elim⟩
theorem os_notN : OpS K (fun x y H Q => y = .non ∧ Q (.bl (!decide (x = .non))) H) dNotN := ⟨fun {B H x y p q QD Q} e rx ry r k => by
  cases q with
  | non => exact ⟨ry, k _ B H _ r (by rw [isNon_rp rx]; rfl) (.refl e)⟩
  | _ => exact r.elim⟩

/-! ### items -/
def dIx : P → P → (P → Prop) → Prop
  | .lst xs, .int i, Q => ∃ p, atI xs i = some p ∧ Q p
  | .rol xs, .int i, Q => ∃ p, atI xs i = some p ∧ Q p
  | .tup xs, .int i, Q => ∃ p, atI xs i = some p ∧ Q p
  | .str z, .int i, Q => z.length ≤ sizeLine ∧ ∃ c, atI z.cps.toList i = some c ∧ Q (.str ⟨#[c]⟩)
  | _, _, _ => False
theorem os_ix : OpS K (rIx K) dIx := ⟨fun {B H x y p q QD Q} e rx ry r k => by
  cases q with
  | int i =>
    cases p with
    | lst xs =>
      obtain ⟨a, vs, rfl, h1, h2⟩ := rx
      obtain ⟨p, hp, r⟩ := r
      obtain ⟨v, hv, rv⟩ := atI_rp h2 hp
      exact .inl ⟨a, vs, i, v, rfl, ry, SqL.of (e a _ h1), hv, k v B H p r rv (.refl e)⟩
    | rol xs =>
      obtain ⟨a, vs, rfl, h1, h2⟩ := rx
      obtain ⟨p, hp, r⟩ := r
      obtain ⟨v, hv, rv⟩ := atI_rp h2 hp
      exact .inl ⟨a, vs, i, v, rfl, ry, e.sqL h1, hv, k v B H p r rv (.refl e)⟩
    | tup xs =>
      obtain ⟨a, vs, rfl, h1, h2⟩ := rx
      obtain ⟨p, hp, r⟩ := r
      obtain ⟨v, hv, rv⟩ := atI_rp h2 hp
      exact .inr (.inl ⟨a, vs, i, v, rfl, ry, e.sqT h1, hv, k v B H p r rv (.refl e)⟩)
    | str z =>
      obtain ⟨hz, c, hc, r⟩ := r
      exact .inr (.inr ⟨z, i, c, rx, ry, hz, hc, k _ B H _ r rfl (.refl e)⟩)
    | _ => exact r.elim
  | _ => cases p <;> exact r.elim⟩
/-- items of lists alone, as a store's place is read -/
def dIxL : P → P → (P → Prop) → Prop
  | .lst xs, .int i, Q => ∃ p, atI xs i = some p ∧ Q p
  | .rol xs, .int i, Q => ∃ p, atI xs i = some p ∧ Q p
  | _, _, _ => False

/-! ### == of data -/
end
mutual
def P.toD : P → PyData
  | .non => .none
  | .bl b => .bool b
  | .int i => .int i
  | .str s => .str s
  | .lst xs => .list (P.toDs xs)
  | .rol xs => .list (P.toDs xs)
  | .tup xs => .tuple (P.toDs xs)
  | .ob _ => .dict []
  | .ty _ => .dict []
  | .ins _ _ => .dict []
  | .dic _ => .dict []
  | .rng _ => .dict []
def P.toDs : List P → List PyData
  | [] => []
  | p :: ps => P.toD p :: P.toDs ps
end
section
variable {K : PySem.W.Frag}
mutual
theorem dp_of {B : Hp} : ∀ (p : P) {v : V}, Rp K B p v → (P.toD p).canLay0 = true → Dp K B v (P.toD p)
  | .non, _, h, _ => by rw [show _ = V.non from h]; exact .non
  | .bl b, _, h, _ => by rw [show _ = V.bl b from h]; exact .bl b
  | .int i, _, h, _ => by rw [show _ = V.int i from h]; exact .int i
  | .str s, _, h, _ => by rw [show _ = V.str s from h]; exact .str s
  | .lst xs, _, ⟨a, vs, e, h1, h2⟩, c => by rw [e]; exact .lst (SqL.of h1) (dps_of xs h2 c)
  | .rol xs, _, ⟨a, vs, e, h1, h2⟩, c => by rw [e]; exact .lst h1 (dps_of xs h2 c)
  | .tup xs, _, ⟨a, vs, e, h1, h2⟩, c => by rw [e]; exact .tup h1 (dps_of xs h2 c)
  | .ob _, _, _, c => by cases c
  | .ty _, _, _, c => by cases c
  | .ins _ _, _, _, c => by cases c
  | .dic _, _, _, c => by cases c
  | .rng _, _, _, c => by cases c
theorem dps_of {B : Hp} : ∀ (ps : List P) {vs : List V}, RpA K B ps vs → PyData.canLayAll0 (P.toDs ps) = true → DpAll K B vs (P.toDs ps)
  | [], _, h, _ => by rw [show _ = ([] : List V) from h]; exact .nil
  | p :: ps, _, ⟨v, r, e, h1, h2⟩, c => by
    rw [e]
    have c' : (PyData.canLay0 p.toD && PyData.canLayAll0 (P.toDs ps)) = true := c
    rw [Bool.and_eq_true] at c'
    exact .cons (dp_of p h1 c'.1) (dps_of ps h2 c'.2)
end
mutual
theorem Dp.up {H H' : Hp} (e : Ex H H') : ∀ (d : PyData) {v : V}, Dp K H v d → Dp K H' v d
  | .none, _, h => by cases h; exact .non
  | .bool b, _, h => by cases h; exact .bl b
  | .int i, _, h => by cases h; exact .int i
  | .str x, _, h => by cases h; exact .str x
  | .list ds, _, h => by
    cases h with
    | lst h1 h2 => exact .lst (e.sqL h1) (DpAll.up e ds h2)
  | .tuple ds, _, h => by
    cases h with
    | tup h1 h2 => exact .tup (e.sqT h1) (DpAll.up e ds h2)
  | .dict _, _, h => by cases h
theorem DpAll.up {H H' : Hp} (e : Ex H H') : ∀ (ds : List PyData) {vs : List V}, DpAll K H vs ds → DpAll K H' vs ds
  | [], _, h => by cases h; exact .nil
  | d :: ds, _, h => by
    cases h with
    | cons h1 h2 => exact .cons (Dp.up e d h1) (DpAll.up e ds h2)
end
def dEqD (p q : P) (Q : P → Prop) : Prop := SeqAt.shaped p.toD = true ∧ SeqAt.shaped q.toD = true ∧ Q (.bl (PyData.eqv p.toD q.toD))
def dNeD (p q : P) (Q : P → Prop) : Prop := SeqAt.shaped p.toD = true ∧ SeqAt.shaped q.toD = true ∧ Q (.bl (!PyData.eqv p.toD q.toD))
theorem os_eqD : OpS K (rEqD K) dEqD := ⟨fun {B H x y p q QD Q} e rx ry r k =>
  ⟨p.toD, q.toD, Dp.up e _ (dp_of p rx (SeqAt.canLay_of_shaped r.1)), Dp.up e _ (dp_of q ry (SeqAt.canLay_of_shaped r.2.1)), r.1, r.2.1, k _ B H _ r.2.2 rfl (.refl e)⟩⟩
theorem os_neD : OpS K (rNeD K) dNeD := ⟨fun {B H x y p q QD Q} e rx ry r k =>
  ⟨p.toD, q.toD, Dp.up e _ (dp_of p rx (SeqAt.canLay_of_shaped r.1)), Dp.up e _ (dp_of q ry (SeqAt.canLay_of_shaped r.2.1)), r.1, r.2.1, k _ B H _ r.2.2 rfl (.refl e)⟩⟩

/-! ### built-ins -/
def dLen : List P → (P → Prop) → Prop
  | [.lst xs], Q => Q (.int xs.length)
  | [.rol xs], Q => Q (.int xs.length)
  | [.tup xs], Q => Q (.int xs.length)
  | [.str z], Q => z.length ≤ sizeLine ∧ Q (.int z.length)
  | _, _ => False
theorem one_rp {B : Hp} {p : P} {xs : List V} (r : RpA K B [p] xs) : ∃ v, xs = [v] ∧ Rp K B p v := by
  obtain ⟨v, l, e1, e2, e3⟩ := r
  exact ⟨v, by rw [e1, show l = [] from e3], e2⟩
theorem two_rp {B : Hp} {p q : P} {xs : List V} (r : RpA K B [p, q] xs) : ∃ v u, xs = [v, u] ∧ Rp K B p v ∧ Rp K B q u := by
  obtain ⟨v, l, e1, e2, e3⟩ := r
  obtain ⟨u, f1, f2⟩ := one_rp e3
  exact ⟨v, u, by rw [e1, f1], e2, f2⟩
theorem cs_len : CbS K (fun xs H Q => ∃ x n, xs = [x] ∧ LenV K x H n ∧ Q (.int n) H) dLen := ⟨fun {B H xs ps QD Q} e r q k => by
  unfold dLen at q
  split at q
  · obtain ⟨v, rfl, a, vs, rfl, h1, h2⟩ := one_rp r
    exact ⟨_, _, rfl, .inl ⟨vs, SqL.of (e a _ h1), rfl⟩, k _ B H _ q (by rw [h2.length]; rfl) (.refl e)⟩
  · obtain ⟨v, rfl, a, vs, rfl, h1, h2⟩ := one_rp r
    exact ⟨_, _, rfl, .inl ⟨vs, e.sqL h1, rfl⟩, k _ B H _ q (by rw [h2.length]; rfl) (.refl e)⟩
  · obtain ⟨v, rfl, a, vs, rfl, h1, h2⟩ := one_rp r
    exact ⟨_, _, rfl, .inr ⟨vs, e.sqT h1, rfl⟩, k _ B H _ q (by rw [h2.length]; rfl) (.refl e)⟩
  · obtain ⟨v, rfl, rfl⟩ := one_rp r
    exact ⟨_, _, rfl, ⟨q.1, rfl⟩, k _ B H _ q.2 rfl (.refl e)⟩
  · exact q.elim⟩
def dInt1 : List P → (P → Prop) → Prop
  | [.int i], Q => Q (.int i)
  | [.bl b], Q => Q (.int (if b then 1 else 0))
  | _, _ => False
theorem cs_int : CbS K (fun xs H Q => (∃ i, xs = [.int i] ∧ Q (.int i) H) ∨ ∃ k, xs = [.bl k] ∧ Q (.int (if k then 1 else 0)) H) dInt1 := ⟨fun {B H xs ps QD Q} e r q k => by
  unfold dInt1 at q
  split at q
  · obtain ⟨v, rfl, rfl⟩ := one_rp r
    exact .inl ⟨_, rfl, k _ B H _ q rfl (.refl e)⟩
  · obtain ⟨v, rfl, rfl⟩ := one_rp r
    exact .inr ⟨_, rfl, k _ B H _ q rfl (.refl e)⟩
  · exact q.elim⟩
def dAbs : List P → (P → Prop) → Prop
  | [.int i], Q => Q (.int (if i < 0 then -i else i))
  | _, _ => False
theorem cs_abs : CbS K (fun xs H Q => ∃ i, xs = [.int i] ∧ Q (.int (if i < 0 then -i else i)) H) dAbs := ⟨fun {B H xs ps QD Q} e r q k => by
  unfold dAbs at q
  split at q
  · obtain ⟨v, rfl, rfl⟩ := one_rp r
    exact ⟨_, rfl, k _ B H _ q rfl (.refl e)⟩
  · exact q.elim⟩
def intsP : List P → Option (List Int)
  | [] => some []
  | .int i :: ps => (intsP ps).map (i :: ·)
  | _ :: _ => none
theorem ints_rp {B : Hp} : ∀ {ps : List P} {vs : List V} {ns : List Int}, RpA K B ps vs → intsP ps = some ns → vs = ns.map V.int
  | [], _, _, h, e => by cases e; exact h
  | .int i :: ps, _, ns, ⟨v, r, e1, e2, e3⟩, e => by
    unfold intsP at e
    cases h : intsP ps with
    | none => rw [h] at e; cases e
    | some ms =>
      rw [h] at e
      cases Option.some.inj e
      rw [e1, ints_rp e3 h, show v = V.int i from e2]
      rfl
  | .non :: _, _, _, _, e => by cases e
  | .bl _ :: _, _, _, _, e => by cases e
  | .str _ :: _, _, _, _, e => by cases e
  | .ob _ :: _, _, _, _, e => by cases e
  | .ty _ :: _, _, _, _, e => by cases e
  | .lst _ :: _, _, _, _, e => by cases e
  | .rol _ :: _, _, _, _, e => by cases e
  | .tup _ :: _, _, _, _, e => by cases e
  | .ins _ _ :: _, _, _, _, e => by cases e
  | .dic _ :: _, _, _, _, e => by cases e
  | .rng _ :: _, _, _, _, e => by cases e
theorem ints_map (ns : List Int) : intsP (ns.map P.int) = some ns := by
  induction ns with
  | nil => rfl
  | cons n ns ih => show (intsP (ns.map P.int)).map (n :: ·) = _; rw [ih]; rfl
def dSum (ps : List P) (Q : P → Prop) : Prop := match ps with
  | [p] => (match plst p with
    | some xs => (match intsP xs with
      | some ns => Q (.int ns.sum)
      | none => False)
    | none => False)
  | _ => False
theorem cs_sum : CbS K (rSum K) dSum := ⟨fun {B H xs ps QD Q} e r q k => by
  unfold dSum at q
  split at q
  · rename_i p
    split at q
    · rename_i ys hp
      split at q
      · rename_i ns hn
        obtain ⟨v, rfl, rv⟩ := one_rp r
        obtain ⟨a, vs, rfl, h1, h2⟩ := plst_rp rv hp
        rw [ints_rp h2 hn] at h1
        exact ⟨a, ns, rfl, e.sqL h1, k _ B H _ q rfl (.refl e)⟩
      · exact q.elim
    · exact q.elim
  · exact q.elim⟩
def dListOf (ps : List P) (Q : List P → Prop) : Prop := match ps with
  | [.lst xs] => Q xs
  | [.rol xs] => Q xs
  | [.tup xs] => Q xs
  | _ => False
theorem cs_list : CbO K (fun xs H Q => ∃ p ys, xs = [.ref p] ∧ (SqL K H p ys ∨ SqT K H p ys) ∧ ∀ l, H l = none → Q (.ref l) (upd H l (.lst ys))) dListOf := ⟨fun {B H xs ps QD Q} e r q k => by
  unfold dListOf at q
  split at q
  · obtain ⟨v, rfl, a, vs, rfl, h1, h2⟩ := one_rp r
    exact ⟨a, vs, rfl, .inl (SqL.of (e a _ h1)), fun l hl => k l vs _ q h2 hl⟩
  · obtain ⟨v, rfl, a, vs, rfl, h1, h2⟩ := one_rp r
    exact ⟨a, vs, rfl, .inl (e.sqL h1), fun l hl => k l vs _ q h2 hl⟩
  · obtain ⟨v, rfl, a, vs, rfl, h1, h2⟩ := one_rp r
    exact ⟨a, vs, rfl, .inr (e.sqT h1), fun l hl => k l vs _ q h2 hl⟩
  · exact q.elim⟩
def dTupOf (ps : List P) (Q : P → Prop) : Prop := match ps with
  | [.lst xs] => Q (.tup xs)
  | [.rol xs] => Q (.tup xs)
  | [.tup xs] => Q (.tup xs)
  | _ => False
theorem cs_tuple : CbS K (fun xs H Q => ∃ p ys, xs = [.ref p] ∧ ((SqL K H p ys ∧ ∀ l, H l = none → Q (.ref l) (upd H l (.tup ys))) ∨ (SqT K H p ys ∧ Q (.ref p) H))) dTupOf := ⟨fun {B H xs ps QD Q} e r q k => by
  unfold dTupOf at q
  split at q
  · obtain ⟨v, rfl, a, vs, rfl, h1, h2⟩ := one_rp r
    refine ⟨a, vs, rfl, .inl ⟨SqL.of (e a _ h1), fun l hl => ?_⟩⟩
    have g := gr_new (o := .tup vs) e hl
    exact k _ _ _ _ q ⟨l, vs, rfl, SqT.of upd_same, RpA.mono g.b _ h2⟩ g
  · obtain ⟨v, rfl, a, vs, rfl, h1, h2⟩ := one_rp r
    refine ⟨a, vs, rfl, .inl ⟨e.sqL h1, fun l hl => ?_⟩⟩
    have g := gr_new (o := .tup vs) e hl
    exact k _ _ _ _ q ⟨l, vs, rfl, SqT.of upd_same, RpA.mono g.b _ h2⟩ g
  · obtain ⟨v, rfl, a, vs, rfl, h1, h2⟩ := one_rp r
    exact ⟨a, vs, rfl, .inr ⟨e.sqT h1, k _ B H _ q ⟨a, vs, rfl, h1, h2⟩ (.refl e)⟩⟩
  · exact q.elim⟩
/-- [x] * n -/
def dRep : P → P → (D → Prop) → Prop
  | .lst xs, .int n, Q => -(2 ^ 63) ≤ n ∧ n < 2 ^ 63 ∧ xs.length * n.toNat ≤ sizeLine ∧ Q (.ol (List.replicate n.toNat xs).flatten)
  | _, _, _ => False
theorem rep_flat {B : Hp} {ps : List P} {vs : List V} (h : RpA K B ps vs) : ∀ n : Nat, RpA K B (List.replicate n ps).flatten (List.replicate n vs).flatten
  | 0 => rfl
  | n + 1 => by
    rw [List.replicate_succ, List.flatten_cons, List.replicate_succ, List.flatten_cons]
    exact h.append (rep_flat h n)
/-! ### isinstance with a built-in class -/
def tyN : P → Option String
  | .non => some "NoneType"
  | .bl _ => some "bool"
  | .int _ => some "int"
  | .str _ => some "str"
  | .lst _ => some "list"
  | .rol _ => some "list"
  | .tup _ => some "tuple"
  | _ => none
def dIsi (ps : List P) (Q : P → Prop) : Prop := match ps with
  | [p, .ty n] => (match tyN p with
    | some t => ∃ b, kitB t n = some b ∧ Q (.bl b)
    | none => False)
  | _ => False
theorem tyx_of {B H : Hp} (e : Ex B H) : ∀ {p : P} {v : V} {t : String}, Rp K B p v → tyN p = some t → TyX K H v (.type t)
  | .non, _, _, r, h => by cases h; rw [show _ = V.non from r]; exact .base .non
  | .bl b, _, _, r, h => by cases h; rw [show _ = V.bl b from r]; exact .base (.bl b)
  | .int b, _, _, r, h => by cases h; rw [show _ = V.int b from r]; exact .base (.int b)
  | .str b, _, _, r, h => by cases h; rw [show _ = V.str b from r]; exact .base (.str b)
  | .lst b, _, _, ⟨a, vs, e1, h1, _⟩, h => by cases h; rw [e1]; exact .base (.lst (e a _ h1))
  | .rol b, _, _, ⟨a, vs, e1, h1, _⟩, h => by
    cases h
    rw [e1]
    rcases e.sqL h1 with (h2 | ⟨o, h2⟩) | ⟨o, its, n, g1, g2, _⟩
    · exact .base (.lst h2)
    · exact .base (.frz h2)
    · exact .kList g1 g2
  | .tup b, _, _, ⟨a, vs, e1, h1, _⟩, h => by
    cases h
    rw [e1]
    rcases e.sqT h1 with (h2 | ⟨o, h2⟩) | ⟨o, its, n, g1, g2, _⟩
    · exact .base (.tup h2)
    · exact .fTuple h2
    · exact .kTuple g1 g2
  | .ob _, _, _, _, h => by cases h
  | .ty _, _, _, _, h => by cases h
  | .ins _ _, _, _, _, h => by cases h
  | .dic _, _, _, _, h => by cases h
  | .rng _, _, _, _, h => by cases h
theorem cs_isi : CbS K (rIsi K) dIsi := ⟨fun {B H xs ps QD Q} e r q k => by
  unfold dIsi at q
  split at q
  · rename_i p n
    split at q
    · rename_i t ht
      obtain ⟨b, hb, q⟩ := q
      obtain ⟨v, u, rfl, r1, r2⟩ := two_rp r
      rw [show u = V.ty n from r2]
      exact ⟨v, .ty n, .type t, .type n, b, rfl, .ty n, tyx_of e r1 ht, kit_ty hb, k _ B H _ q rfl (.refl e)⟩
    · exact q.elim
  · exact q.elim⟩
end
end DL
set_option Elab.async false
set_option linter.all false
set_option maxRecDepth 100000
set_option maxHeartbeats 2000000
namespace DL
open PySem PySem.Spec L2
variable [Rf]
/-! ### what zip and enumerate walk: lists, tuples, texts in any mix -/
inductive Src where
  | L (a : Addr) | T (a : Addr) | S (z : Str)
def Src.v : Src → V
  | .L a => .ref a
  | .T a => .ref a
  | .S z => .str z
def Src.Has (K : PySem.W.Frag) (H : Hp) : Src → List V → Prop
  | .L a, xs => SqL K H a xs
  | .T a, xs => SqT K H a xs
  | .S z, xs => xs = z.cps.toList.map fun c => V.str ⟨#[c]⟩
/-- its iterator at the turn i -/
def Src.At (h : Heap) (it : Addr) (i : Nat) : Src → Prop
  | .L a => h.IsListIter it a i
  | .T a => h.IsTupleIter it a i
  | .S z => ∃ t, h.IsStrIter it (strIterType z) z t i
def Src.addr : Src → List Addr
  | .L a => [a]
  | .T a => [a]
  | .S _ => []
theorem Src.At.keep {h h' : Heap} {it : Addr} {i : Nat} : ∀ {x : Src}, x.At h it i → (∀ o, h.get? it = some o → h'.get? it = some o) → x.At h' it i
  | .L a, st, k => st.at k
  | .T a, st, k => st.at k
  | .S z, ⟨t, o, ho, r⟩, k => ⟨t, o, k o ho, r⟩
theorem Src.At.obj {h : Heap} {it : Addr} {i : Nat} : ∀ {x : Src}, x.At h it i → ∃ o, h.get? it = some o ∧ ∀ v, o.data ≠ .cell v
  | .L a, ⟨o, e, _, d⟩ => ⟨o, e, fun v q => by rw [d] at q; cases q⟩
  | .T a, ⟨o, e, _, d⟩ => ⟨o, e, fun v q => by rw [d] at q; cases q⟩
  | .S z, ⟨t, o, e, _, d⟩ => ⟨o, e, fun v q => by rw [d] at q; cases q⟩
theorem str_ty (z : Str) : strIterType z = "str_ascii_iterator" ∨ strIterType z = "str_iterator" := by
  unfold strIterType
  split
  · exact .inl rfl
  · exact .inr rfl
section
variable {X : Cx} {pins : List (Addr × Obj)} {σ : L2.St} {H : Hp} {s : Shared}
/-- what such an iterator draws -/
theorem src_draws (I : Inv X pins σ H s) {A : Around} (hh : A.handled = none) {x : Src} {xs : List V} (hq : x.Has X.K H xs) {it : Addr} {i : Nat} (st : x.At s.heap it i) (hne : ∀ a ∈ x.addr, a ≠ it) :
    ∃ (P : Nat → Value → Prop) (St : Nat → Heap → Prop), Draws X.prog X.w A it (it :: x.addr) xs.length P St ∧ St i s.heap ∧ (∀ j h, St j h → x.At h it j) ∧ ∀ j u, P j u → ∃ y, xs[j]? = some y ∧ RelV y u := by
  cases x with
  | L a =>
    obtain ⟨its, rv, p, _⟩ := I.list hq
    have hl := rv.length
    have D := Draws.list (prog := X.prog) (w := X.w) hh it a (hne a (by simp [Src.addr])) its.toArray
    rw [show its.toArray.size = xs.length by simp; omega] at D
    refine ⟨_, _, D, ⟨st, p.isList⟩, fun j h q => q.1, fun j u hu => ?_⟩
    have hu' : its[j]? = some u := by simpa using hu
    cases hy : xs[j]? with
    | none => rw [rv.none_of hy] at hu'; cases hu'
    | some y =>
      obtain ⟨u2, h1, h2⟩ := rv.get hy
      rw [hu'] at h1
      cases h1
      exact ⟨y, rfl, h2⟩
  | T a =>
    obtain ⟨its, rv, p, _⟩ := I.tuple hq
    have hl := rv.length
    have D := Draws.tuple (prog := X.prog) (w := X.w) hh it a (hne a (by simp [Src.addr])) its.toArray
    rw [show its.toArray.size = xs.length by simp; omega] at D
    refine ⟨_, _, D, ⟨st, p⟩, fun j h q => q.1, fun j u hu => ?_⟩
    have hu' : its[j]? = some u := by simpa using hu
    cases hy : xs[j]? with
    | none => rw [rv.none_of hy] at hu'; cases hu'
    | some y =>
      obtain ⟨u2, h1, h2⟩ := rv.get hy
      rw [hu'] at h1
      cases h1
      exact ⟨y, rfl, h2⟩
  | S z =>
    obtain ⟨t, st⟩ := st
    have D := Draws.text (prog := X.prog) (w := X.w) hh it z t
    have hz : xs = z.cps.toList.map fun c => V.str ⟨#[c]⟩ := hq
    rw [show z.cps.size = xs.length by rw [hz]; simp] at D
    refine ⟨_, _, D, st, fun j h q => ⟨t, q⟩, fun j u hu => ?_⟩
    obtain ⟨c, w, hc, rfl⟩ := hu
    refine ⟨.str ⟨#[c]⟩, ?_, ⟨w, rfl⟩⟩
    rw [hz, List.getElem?_map, show z.cps.toList[j]? = some c by simpa using hc]
    rfl
theorem src_inj (I : Inv X pins σ H s) {x : Src} {xs ys : List V} (h : x.Has X.K H xs) (g : x.Has X.K H ys) : xs = ys := by
  cases x with
  | L a => exact I.list_inj h g
  | T a => exact I.tuple_inj h g
  | S z => rw [show xs = _ from h, show ys = _ from g]
end
def ItzG (K : PySem.W.Frag) (a b : Src) : It :=
  ⟨fun i H => ∃ (xs ys : List V) (x y : V), a.Has K H xs ∧ b.Has K H ys ∧ xs[i]? = some x ∧ ys[i]? = some y,
    fun i H v H' => ∃ T x y, v = .ref T ∧ H T = none ∧ H' = upd H T (.tup [x, y]) ∧ (∀ xs, a.Has K H xs → xs[i]? = some x) ∧ ∀ ys, b.Has K H ys → ys[i]? = some y,
    fun i H => ∃ xs ys : List V, a.Has K H xs ∧ b.Has K H ys ∧ i ≤ xs.length ∧ i ≤ ys.length ∧ (xs.length ≤ i ∨ ys.length ≤ i)⟩
theorem turn_zipG {P : Program} {w : World} {K : PySem.W.Frag} {elts : List Expr} {kk : Nat} {tpos : Pos} {a b : Src} {N : Nat} (ha : ∀ c ∈ a.addr, c < N) (hb : ∀ c ∈ b.addr, c < N) :
    Turn P w K (.Tuple elts kk tpos) (ItzG K a b) [N + 4, N + 2, N + 3, N, N + 1] (N + 4) (fun i h => IsZip h (N + 4) (N + 2) (N + 3) .none ∧ IsTupOf2 h (N + 2) (.ref N) (.ref (N + 1)) ∧ (∃ x y, IsTupOf2 h (N + 3) x y) ∧ a.At h N i ∧ b.At h (N + 1) i) where
  mem := by simp
  obj := fun i h st c hc => by
    obtain ⟨hz, hTI, ⟨x, y, hTO⟩, h1, h2⟩ := st
    have e' : c = N + 4 ∨ c = N + 2 ∨ c = N + 3 ∨ c = N ∨ c = N + 1 := by simpa using hc
    rcases e' with q | q | q | q | q
    · rw [q]; exact ⟨_, hz, fun v q => nomatch q⟩
    · rw [q]; exact ⟨_, hTI, fun v q => nomatch q⟩
    · rw [q]; exact ⟨_, hTO, fun v q => nomatch q⟩
    · rw [q]; exact h1.obj
    · rw [q]; exact h2.obj
  keep := fun i h h' st k => by
    obtain ⟨hz, hTI, ⟨x, y, hTO⟩, h1, h2⟩ := st
    exact ⟨k _ (by simp) _ hz, k _ (by simp) _ hTI, ⟨x, y, k _ (by simp) _ hTO⟩, h1.keep fun o q => k N (by simp) o q, h2.keep fun o q => k (N + 1) (by simp) o q⟩
  item := by
    intro X hP hw hK hc i pins s σ H E I hf st hg
    subst hP hw hK
    obtain ⟨hz, hTI, ⟨x0, y0, hTO⟩, h1, h2⟩ := st
    obtain ⟨xs, ys, x, y, hqx, hqy, hx, hy⟩ := hg
    have hh : X.A.in1.handled = none := I.ok.hd hc
    obtain ⟨P1, S1, D1, s1, k1, r1⟩ := src_draws I hh hqx h1 fun c hm => Nat.ne_of_lt (ha c hm)
    obtain ⟨P2, S2, D2, s2, k2, r2⟩ := src_draws I hh hqy h2 fun c hm => Nat.ne_of_lt (Nat.lt_succ_of_lt (hb c hm))
    have hzl : N + 4 < s.heap.objs.size := Heap.lt_size hz
    have hi1 := (List.getElem?_eq_some_iff.mp hx).1
    have hi2 := (List.getElem?_eq_some_iff.mp hy).1
    refine wpAny_pyNext_zipD2_item (zip_sep2 ha hb) D1 D2 hz hTI hTO s1 s2 hi1 hi2 fun u1 u2 h' tk p1 p2 z' TO' h1' h2' hT hsz hk => ?_
    obtain ⟨y1, e1, ru1⟩ := r1 i u1 p1
    obtain ⟨y2, e2, ru2⟩ := r2 i u2 p2
    rw [hx] at e1; cases e1
    rw [hy] at e2; cases e2
    refine ⟨_, rfl, wpAny_letOwnedTupleGo_zip (s := { s with heap := h', toks := tk }) z' fun h'' z'' sb => ?_⟩
    have hT2 : h''.get? s.heap.objs.size = some { cls := .type "tuple", data := .seq #[u1, u2] } := (sb.2 _ (Nat.ne_of_gt hzl)).trans hT
    have new : ObjOk X.prog X.w (upd H s.heap.objs.size (.tup [x, y])) h'' s.heap.objs.size (.tup [x, y]) :=
      ⟨by show 2 ≤ sizeLine; decide, [u1, u2], .cons ru1 (.cons ru2 .nil), ⟨_, hT2, rfl, _, rfl⟩⟩
    have I1 : Inv X pins σ (upd H s.heap.objs.size (.tup [x, y])) { s with heap := h'', toks := tk } :=
      I.turnedNew (ch := [N + 4, N + 2, N + 3, N, N + 1]) (fun c o hb q => (sb.2 c (fun q' => hb (by simp [q']))).trans (hk c o (fun q' => hb (by simp [q'])) (fun q' => hb (by simp [q'])) (fun q' => hb (by simp [q'])) (fun q' => hb (by simp [q'])) q)) hf (Nat.le_refl _) new
    refine ⟨.ref s.heap.objs.size, _, I1, rfl, ⟨_, x, y, rfl, I.hok.fresh (Nat.le_refl _), rfl, fun l hl => by rw [src_inj I hl hqx]; exact hx, fun l hl => by rw [src_inj I hl hqy]; exact hy⟩, ⟨z'', ?_, ⟨u1, u2, ?_⟩, ?_, ?_⟩, fun c hcm => ?_⟩
    · exact (sb.2 _ (show (N + 2 : Nat) ≠ N + 4 by omega)).trans (hk _ _ (show (N + 2 : Nat) ≠ N + 4 by omega) (show (N + 2 : Nat) ≠ N + 3 by omega) (show (N + 2 : Nat) ≠ N by omega) (show (N + 2 : Nat) ≠ N + 1 by omega) hTI)
    · exact (sb.2 _ (show (N + 3 : Nat) ≠ N + 4 by omega)).trans TO'
    · exact (k1 _ _ h1').keep fun o q => (sb.2 _ (show (N : Nat) ≠ N + 4 by omega)).trans q
    · exact (k2 _ _ h2').keep fun o q => (sb.2 _ (show (N + 1 : Nat) ≠ N + 4 by omega)).trans q
    · have hlt : c < s.heap.objs.size := by
        have e' : c = N + 4 ∨ c = N + 2 ∨ c = N + 3 ∨ c = N ∨ c = N + 1 := by simpa using hcm
        rcases e' with q | q | q | q | q
        · rw [q]; exact hzl
        · rw [q]; exact Heap.lt_size hTI
        · rw [q]; exact Heap.lt_size hTO
        · rw [q]; obtain ⟨_, e1, _⟩ := h1.obj; exact Heap.lt_size e1
        · rw [q]; obtain ⟨_, e2, _⟩ := h2.obj; exact Heap.lt_size e2
      rw [upd_ne (Nat.ne_of_lt hlt)]
      exact (hf c hcm).1
  done := by
    intro X hP hw hK hc i pins s σ H E I hf st hg
    subst hP hw hK
    obtain ⟨hz, hTI, ⟨x0, y0, hTO⟩, h1, h2⟩ := st
    obtain ⟨xs, ys, hqx, hqy, hi1, hi2, hend⟩ := hg
    have hh : X.A.in1.handled = none := I.ok.hd hc
    obtain ⟨P1, S1, D1, s1, k1, r1⟩ := src_draws I hh hqx h1 fun c hm => Nat.ne_of_lt (ha c hm)
    obtain ⟨P2, S2, D2, s2, k2, r2⟩ := src_draws I hh hqy h2 fun c hm => Nat.ne_of_lt (Nat.lt_succ_of_lt (hb c hm))
    exact wpAny_pyNext_zipD2_end (zip_sep2 ha hb) D1 D2 hz hTI hTO s1 s2 hi1 hi2 (hend.imp (fun q => by omega) (fun q => by omega)) fun h' tk hk => ⟨rfl, I.turnedL (t' := tk) (ch := [N + 4, N + 2, N + 3, N, N + 1]) (fun c o hb q =>
      hk c o (fun q' => hb (by simp [q'])) (fun q' => hb (by simp [q'])) (fun q' => hb (by simp [q'])) (fun q' => hb (by simp [q'])) q) hf⟩
  self := fun A i s Q E st h => wpAny_pyIter_zip st.1 h
def iZipG (K : PySem.W.Frag) (ta : TA) : TI := fun σ H R => ta σ H fun vs H1 => ∃ (a b : Src) (xs ys : List V), vs = [a.v, b.v] ∧ a.Has K H1 xs ∧ b.Has K H1 ys ∧ R (ItzG K a b) H1
section
variable {X : Cx} {pins : List (Addr × Obj)} {σ : L2.St} {H : Hp} {s : Shared}
/-- how its iterator begins -/
theorem src_begins (I : Inv X pins σ H s) {x : Src} {xs : List V} {u : Value} (hq : x.Has X.K H xs) (r : RelV x.v u) :
    ∃ (o : Obj) (Hh : Heap → Prop), Begins u o Hh ∧ Hh s.heap ∧ (∀ c ∈ x.addr, c < s.heap.objs.size) ∧ ∀ h it, h.get? it = some o → x.At h it 0 := by
  cases x with
  | L a =>
    cases (show u = Value.ref a from r)
    obtain ⟨its, rv, p, _⟩ := I.list hq
    exact ⟨_, _, begins_list a its.toArray, p.isList, fun c hc => by rw [List.mem_singleton.mp hc]; exact p.lt, fun h it e => ⟨_, e, rfl, rfl⟩⟩
  | T a =>
    cases (show u = Value.ref a from r)
    obtain ⟨its, rv, p, _⟩ := I.tuple hq
    exact ⟨_, _, begins_tuple a its.toArray, p, fun c hc => by rw [List.mem_singleton.mp hc]; exact p.lt, fun h it e => ⟨_, e, rfl, rfl⟩⟩
  | S z =>
    obtain ⟨t, rfl⟩ := r
    exact ⟨_, _, begins_text z t, trivial, fun c hc => absurd hc List.not_mem_nil, fun h it e => ⟨t, _, e, rfl, rfl⟩⟩
theorem pi_zipG {e e2 : Expr} {ta : TA} {p pos tpos : Pos} {elts : List Expr} {kk : Nat} (hg : Gl X "zip") (hm : X.mg "zip" = none) (ha : PA X [e, e2] ta)
    (hs : starEach [e, e2] X.env = (false, eval e X.env) :: starEach [e2] X.env := by rfl) (hpl : (backTo pos (starEach [e2] X.env)).any (·.1) = false := by rfl) :
    PI X (.Tuple elts kk tpos) (.Call (.Name "zip" p) [e, e2] [] pos) (iZipG X.K ta) := by
  refine ⟨fun pins s σ H R I h => ?_⟩
  refine PyProof.Rows.Call_ (ld_blt I hg hm PyProof.Rows.boot_zip (PyProof.Rows.callWith_type1 (thn (ha.run pos pins s σ H _ I h) fun us s1 ⟨vs, H1, I1, r1, q1⟩ => ?_) hs hpl))
  obtain ⟨a, b, xs, ys, ex, hqx, hqy, q⟩ := q1
  subst ex
  cases r1 with
  | cons r rr =>
    cases rr with
    | cons r' rr =>
      cases rr
      obtain ⟨o1, Hh1, B1, g1, l1, a1⟩ := src_begins I1 hqx r
      obtain ⟨o2, Hh2, B2, g2, l2, a2⟩ := src_begins I1 hqy r'
      refine zip_begins2 B1 B2 g1 g2 fun h' hz hTI hTO h1 h2 hsz hk => wpAny_pyIter_zip hz ?_
      have I2 : Inv X pins σ H1 { s1 with heap := h' } := I1.kept (t' := s1.toks) hk
      refine ⟨s1.heap.objs.size + 4, [s1.heap.objs.size + 4, s1.heap.objs.size + 2, s1.heap.objs.size + 3, s1.heap.objs.size, s1.heap.objs.size + 1], _, _, H1, rfl, I2, turn_zipG l1 l2, ⟨hz, hTI, ⟨_, _, hTO⟩, a1 _ _ h1, a2 _ _ h2⟩, fun c hcm => ?_, q⟩
      have e' : c = s1.heap.objs.size + 4 ∨ c = s1.heap.objs.size + 2 ∨ c = s1.heap.objs.size + 3 ∨ c = s1.heap.objs.size ∨ c = s1.heap.objs.size + 1 := by simpa using hcm
      have hle : s1.heap.objs.size ≤ c := by
        rcases e' with z | z | z | z | z
        · rw [z]; exact Nat.le_add_right _ _
        · rw [z]; exact Nat.le_add_right _ _
        · rw [z]; exact Nat.le_add_right _ _
        · rw [z]; exact Nat.le_refl _
        · rw [z]; exact Nat.le_add_right _ _
      exact I1.fpOk hle (I1.hok.fresh hle)
end
/-! ### over data -/
/-- the items of what can be walked -/
def pseq : P → Option (List P)
  | .lst ps => some ps
  | .rol ps => some ps
  | .tup ps => some ps
  | .str z => some (z.cps.toList.map fun c => P.str ⟨#[c]⟩)
  | _ => none
section
variable {m : Bool} {K : PySem.W.Frag} {te ta' tb' : TE} {de da' db' : dE} {ta : TA} {da : dA} {X : Cx} {a b c e e2 : Expr} {es : List Expr} {pos : Pos}
theorem rpa_str {B : Hp} (cs : List Nat) : RpA K B (cs.map fun c => P.str ⟨#[c]⟩) (cs.map fun c => V.str ⟨#[c]⟩) := by
  induction cs with
  | nil => rfl
  | cons c cs ih => exact ⟨_, _, rfl, rfl, ih⟩
theorem pseq_src {B : Hp} {p : P} {v : V} {ps : List P} (r : Rp K B p v) (h : pseq p = some ps) : ∃ (x : Src) (vs : List V), v = x.v ∧ x.Has K B vs ∧ RpA K B ps vs := by
  cases p with
  | lst qs => cases h; obtain ⟨a, vs, e1, e2, e3⟩ := r; exact ⟨.L a, vs, e1, SqL.of e2, e3⟩
  | rol qs => cases h; obtain ⟨a, vs, e1, e2, e3⟩ := r; exact ⟨.L a, vs, e1, e2, e3⟩
  | tup qs => cases h; obtain ⟨a, vs, e1, e2, e3⟩ := r; exact ⟨.T a, vs, e1, e2, e3⟩
  | str z => cases h; exact ⟨.S z, _, r, rfl, rpa_str _⟩
  | _ => cases h
theorem Src.Has.up {B H : Hp} (e : Ex B H) : ∀ {x : Src} {vs : List V}, x.Has K B vs → x.Has K H vs
  | .L a, _, h => e.sqL h
  | .T a, _, h => e.sqT h
  | .S z, _, h => h
def zipP : List P → List P → List P
  | p :: ps, q :: qs => .tup [p, q] :: zipP ps qs
  | _, _ => []
theorem zipP_get : ∀ {ps qs : List P} {i : Nat} {r : P}, (zipP ps qs)[i]? = some r → ∃ p q, ps[i]? = some p ∧ qs[i]? = some q ∧ r = .tup [p, q]
  | [], _, _, _, h => by simp [zipP] at h
  | _ :: _, [], _, _, h => by simp [zipP] at h
  | p :: ps, q :: qs, 0, r, h => by cases h; exact ⟨p, q, rfl, rfl, rfl⟩
  | p :: ps, q :: qs, i + 1, r, h => zipP_get (ps := ps) (qs := qs) (i := i) h
theorem zipP_len : ∀ (ps qs : List P), (zipP ps qs).length = min ps.length qs.length
  | [], _ => by simp [zipP]
  | _ :: _, [] => by simp [zipP]
  | p :: ps, q :: qs => by show (zipP ps qs).length + 1 = _; rw [zipP_len]; simp only [List.length_cons]; omega
theorem itok_zip {B0 : Hp} {x y : Src} {ps qs : List P} {vs us : List V} (h1 : x.Has K B0 vs) (r1 : RpA K B0 ps vs) (h2 : y.Has K B0 us) (r2 : RpA K B0 qs us) : ItOk K (ItzG K x y) B0 (zipP ps qs) := fun B H i e1 e2 hle => by
  have g1 := h1.up (e1.trans e2)
  have g2 := h2.up (e1.trans e2)
  have l1 := r1.length
  have l2 := r2.length
  have l3 := zipP_len ps qs
  refine ⟨fun p hp => ?_, fun hge => ⟨vs, us, g1, g2, by omega, by omega, by omega⟩⟩
  obtain ⟨p1, p2, k1, k2, rfl⟩ := zipP_get hp
  obtain ⟨v1, w1, z1⟩ := r1.get k1
  obtain ⟨v2, w2, z2⟩ := r2.get k2
  refine ⟨⟨vs, us, v1, v2, g1, g2, w1, w2⟩, fun z H2 hz => ?_⟩
  obtain ⟨T, a, b, rfl, hT, rfl, f1, f2⟩ := hz
  have := f1 vs g1
  rw [w1] at this; cases this
  have := f2 us g2
  rw [w2] at this; cases this
  have g := gr_new (o := .tup [v1, v2]) e2 hT
  exact ⟨_, g, T, [v1, v2], rfl, SqT.of upd_same, v1, [v2], rfl, Rp.mono (e1.trans g.b) _ z1, v2, [], rfl, Rp.mono (e1.trans g.b) _ z2, rfl⟩
def zipQ (as : List AR) (f : List P → Prop) : Prop := match as with
  | [.inl p, .inl q] => (match pseq p, pseq q with
    | some ps, some qs => f (zipP ps qs)
    | _, _ => False)
  | _ => False
def diZ (da : dA) : dI := fun env Q => da env fun as e => zipQ as fun ps => Q ps e
theorem snd_iz (h : SndA m K ta da) : SndI m K (iZipG K ta) (diZ da) := ⟨fun {B H σ env G QD R} w q k => h.run w q fun as e vs B1 H1 G1 q1 w1 r1 s1 u1 => by
  change zipQ as fun ps => QD ps e at q1
  unfold zipQ at q1
  split at q1
  · rename_i p q
    split at q1
    · rename_i ps qs hp hq
      obtain ⟨v, l, rfl, z1, u, l2, rfl, z2, z3⟩ := r1
      cases (show l2 = [] from z3)
      obtain ⟨x, vs, rfl, f1, f2⟩ := pseq_src z1 hp
      obtain ⟨y, us, rfl, g1, g2⟩ := pseq_src z2 hq
      exact ⟨x, y, vs, us, rfl, f1.up w1.ex, g1.up w1.ex, k _ e B1 H1 G1 _ q1 w1 s1 u1 (itok_zip f1 f2 g1 g2)⟩
    · exact q1.elim
  · exact q1.elim⟩
theorem di_zip {p pos tpos : Pos} {elts : List Expr} {kk : Nat} (hg : Gl X "zip") (hm : X.mg "zip" = none) (ha : DA m X [e, e2] ta da)
    (hs : starEach [e, e2] X.env = (false, eval e X.env) :: starEach [e2] X.env := by rfl) (hpl : (backTo pos (starEach [e2] X.env)).any (·.1) = false := by rfl) :
    DI m X (.Tuple elts kk tpos) (.Call (.Name "zip" p) [e, e2] [] pos) (iZipG X.K ta) (diZ da) := ⟨pi_zipG hg hm ha.pe hs hpl, snd_iz ha.sd⟩

/-! ### one source -/
def ItS (K : PySem.W.Frag) : Src → It
  | .L a => Itl K a
  | .T a => Itt K a
  | .S z => Its z
def iSeq (K : PySem.W.Frag) (te : TE) : TI := fun σ H R => te σ H fun v H1 => ∃ (x : Src) (xs : List V), v = x.v ∧ x.Has K H1 xs ∧ R (ItS K x) H1
theorem pi_seq {tg : Expr} (hl : PE X e te) : PI X tg e (iSeq X.K te) := by
  refine ⟨fun pins s σ H R I h => ?_⟩
  refine thn (hl.run pins s σ H _ I h) fun v s1 ⟨x, H1, I1, r1, q1⟩ => ?_
  obtain ⟨y, xs, rfl, hq, q⟩ := q1
  have fr : ∀ b ∈ [s1.heap.objs.size], FpOk X pins H1 b := fun b hb => by
    rw [List.mem_singleton.mp hb]
    exact I1.fpOk (Nat.le_refl _) (I1.hok.fresh (Nat.le_refl _))
  cases y with
  | L a =>
    cases (show v = Value.ref a from r1)
    obtain ⟨its, rv, p, hz⟩ := I1.list hq
    refine wpAny_pyIter_list p.isList ?_
    exact ⟨s1.heap.objs.size, [s1.heap.objs.size], _, _, H1, rfl, I1.kept (t' := s1.toks) fun b o e => Heap.get?_push_of_some _ e, turn_list a _, ⟨_, Heap.get?_push_size _ rfl, rfl, rfl⟩, fr, q⟩
  | T a =>
    cases (show v = Value.ref a from r1)
    obtain ⟨its, rv, p, hz⟩ := I1.tuple hq
    refine wpAny_pyIter_tuple (show s1.heap.IsTuple a its.toArray from p) ?_
    exact ⟨s1.heap.objs.size, [s1.heap.objs.size], _, _, H1, rfl, I1.kept (t' := s1.toks) fun b o e => Heap.get?_push_of_some _ e, turn_tuple a _, ⟨_, Heap.get?_push_size _ rfl, rfl, rfl⟩, fr, q⟩
  | S z =>
    obtain ⟨t, rfl⟩ := r1
    refine wpAny_pyIter_strU ?_
    exact ⟨s1.heap.objs.size, [s1.heap.objs.size], _, _, H1, rfl, I1.kept (t' := s1.toks) fun b o e => Heap.get?_push_of_some _ e, turn_str _ z t _ (str_ty z), ⟨_, Heap.get?_push_size _ rfl, rfl, rfl⟩, fr, q⟩
def diS (de : dE) : dI := fun env Q => de env fun p e => match pseq p with
  | some ps => Q ps e
  | none => False
theorem itok_src {B0 : Hp} {x : Src} {ps : List P} {vs : List V} (h1 : x.Has K B0 vs) (r1 : RpA K B0 ps vs) : ItOk K (ItS K x) B0 ps := fun B H i e1 e2 hle => by
  have g1 := h1.up (e1.trans e2)
  have l1 := r1.length
  cases x with
  | L a =>
    refine ⟨fun p hp => ?_, fun hge => ⟨vs, g1, by omega⟩⟩
    obtain ⟨v1, w1, z1⟩ := r1.get hp
    refine ⟨⟨vs, v1, g1, w1⟩, fun z H2 hz => ?_⟩
    obtain ⟨rfl, f1⟩ := hz
    have := f1 vs g1
    rw [w1] at this; cases this
    exact ⟨B, .refl e2, Rp.mono e1 _ z1⟩
  | T a =>
    refine ⟨fun p hp => ?_, fun hge => ⟨vs, g1, by omega⟩⟩
    obtain ⟨v1, w1, z1⟩ := r1.get hp
    refine ⟨⟨vs, v1, g1, w1⟩, fun z H2 hz => ?_⟩
    obtain ⟨rfl, f1⟩ := hz
    have := f1 vs g1
    rw [w1] at this; cases this
    exact ⟨B, .refl e2, Rp.mono e1 _ z1⟩
  | S z =>
    have hv : vs = z.cps.toList.map fun c => V.str ⟨#[c]⟩ := h1
    have hl : vs.length = z.cps.size := by rw [hv]; simp
    refine ⟨fun p hp => ?_, fun hge => show z.cps.size ≤ i by omega⟩
    obtain ⟨v1, w1, z1⟩ := r1.get hp
    have hi := (List.getElem?_eq_some_iff.mp w1).1
    refine ⟨show i < z.cps.size by omega, fun y H2 hy => ?_⟩
    obtain ⟨rfl, c, hc, rfl⟩ := hy
    rw [hv, List.getElem?_map, show z.cps.toList[i]? = some c by simpa using hc] at w1
    cases w1
    exact ⟨B, .refl e2, Rp.mono e1 _ z1⟩
theorem snd_is (h : SndE m K te de) : SndI m K (iSeq K te) (diS de) := ⟨fun {B H σ env G QD R} w q k => h.run w q fun p e v B1 H1 G1 q1 w1 r1 s1 u1 => by
  change (match pseq p with | some ps => QD ps e | none => False) at q1
  split at q1
  · rename_i ps hp
    obtain ⟨x, vs, rfl, f1, f2⟩ := pseq_src r1 hp
    exact ⟨x, vs, rfl, f1.up w1.ex, k _ e B1 H1 G1 _ q1 w1 s1 u1 (itok_src f1 f2)⟩
  · exact q1.elim⟩
theorem di_seq {tg : Expr} (h : DE m X e te de) : DI m X tg e (iSeq X.K te) (diS de) := ⟨pi_seq h.pe, snd_is h.sd⟩
/-! ### ranges -/
def rngP (lo : Int) (n : Nat) : List P := (List.range n).map fun (i : Nat) => P.int (lo + (i : Int))
theorem rngP_len (lo : Int) (n : Nat) : (rngP lo n).length = n := by unfold rngP; simp
theorem rngP_get {lo : Int} {n i : Nat} {p : P} (h : (rngP lo n)[i]? = some p) : i < n ∧ p = .int (lo + (i : Int)) := by
  unfold rngP at h
  rw [List.getElem?_map] at h
  by_cases hi : i < n
  · rw [List.getElem?_range hi] at h
    cases h
    exact ⟨hi, rfl⟩
  · rw [List.getElem?_eq_none (by simpa using hi)] at h; cases h
theorem itok_rng {B0 : Hp} {lo : Int} {n : Nat} : ItOk K (Itr lo n) B0 (rngP lo n) := fun B H i e1 e2 _ => by
  refine ⟨fun p hp => ?_, fun hge => by rw [rngP_len] at hge; exact hge⟩
  obtain ⟨hi, rfl⟩ := rngP_get hp
  refine ⟨hi, fun x H2 hx => ?_⟩
  obtain ⟨rfl, rfl⟩ := hx
  exact ⟨B, .refl e2, rfl⟩
def rng1Q (as : List AR) (f : List P → Prop) : Prop := match as with
  | [.inl (.int j)] => -(2 ^ 62) ≤ j ∧ j < 2 ^ 62 ∧ f (rngP 0 j.toNat)
  | _ => False
def rng2Q (as : List AR) (f : List P → Prop) : Prop := match as with
  | [.inl (.int i), .inl (.int j)] => (-(2 ^ 62) ≤ i ∧ i < 2 ^ 62 ∧ -(2 ^ 62) ≤ j ∧ j < 2 ^ 62) ∧ f (rngP i (j - i).toNat)
  | _ => False
def diR1 (da : dA) : dI := fun env Q => da env fun as e => rng1Q as fun ps => Q ps e
def diR2 (da : dA) : dI := fun env Q => da env fun as e => rng2Q as fun ps => Q ps e
theorem snd_ir1 (h : SndA m K ta da) : SndI m K (iRng1 ta) (diR1 da) := ⟨fun {B H σ env G QD R} w q k => h.run w q fun as e vs B1 H1 G1 q1 w1 r1 s1 u1 => by
  change rng1Q as fun ps => QD ps e at q1
  unfold rng1Q at q1
  split at q1
  · rename_i j
    obtain ⟨v, l, rfl, z1, z2⟩ := r1
    cases (show l = [] from z2)
    cases (show v = V.int j from z1)
    exact ⟨j, rfl, q1.1, q1.2.1, k _ e B1 H1 G1 _ q1.2.2 w1 s1 u1 itok_rng⟩
  · exact q1.elim⟩
theorem snd_ir2 (h : SndA m K ta da) : SndI m K (iRng2 ta) (diR2 da) := ⟨fun {B H σ env G QD R} w q k => h.run w q fun as e vs B1 H1 G1 q1 w1 r1 s1 u1 => by
  change rng2Q as fun ps => QD ps e at q1
  unfold rng2Q at q1
  split at q1
  · rename_i i j
    obtain ⟨v, l, rfl, z1, u, l2, rfl, z2, z3⟩ := r1
    cases (show l2 = [] from z3)
    cases (show v = V.int i from z1)
    cases (show u = V.int j from z2)
    exact ⟨i, j, rfl, q1.1, k _ e B1 H1 G1 _ q1.2 w1 s1 u1 itok_rng⟩
  · exact q1.elim⟩
theorem di_rng1 {tg c0 : Expr} {e0 : Expr} (h : PA X [e0] ta → PI X tg c0 (iRng1 ta)) (ha : DA m X [e0] ta da) : DI m X tg c0 (iRng1 ta) (diR1 da) := ⟨h ha.pe, snd_ir1 ha.sd⟩
theorem di_rng2 {tg c0 : Expr} {e0 e1 : Expr} (h : PA X [e0, e1] ta → PI X tg c0 (iRng2 ta)) (ha : DA m X [e0, e1] ta da) : DI m X tg c0 (iRng2 ta) (diR2 da) := ⟨h ha.pe, snd_ir2 ha.sd⟩
end
end DL
set_option Elab.async false
set_option linter.all false
set_option maxRecDepth 100000
set_option maxHeartbeats 2000000
namespace DL
open PySem PySem.Spec L2
variable [Rf]
/-! ### what is made of tuples and of what is no object leans on no list -/
mutual
def tupO : P → Prop
  | .non => True
  | .bl _ => True
  | .int _ => True
  | .str _ => True
  | .ob _ => True
  | .ty _ => True
  | .tup ps => tupOs ps
  | .lst _ => False
  | .rol _ => False
  | .ins _ fs => tupOf fs
  | .dic _ => False
  | .rng _ => False
def tupOs : List P → Prop
  | [] => True
  | p :: ps => tupO p ∧ tupOs ps
def tupOf : List (Str × P) → Prop
  | [] => True
  | (_, p) :: ps => tupO p ∧ tupOf ps
end
/-- B without F -/
def cutB (B : Hp) (F : List Addr) : Hp := fun a => if a ∈ F then none else B a
theorem cutB_in {B : Hp} {F : List Addr} {a : Addr} {o : HO} (h : B a = some o) (n : a ∉ F) : cutB B F a = some o := by
  unfold cutB; rw [if_neg n]; exact h
theorem cutB_ex {B : Hp} {F : List Addr} : Ex (cutB B F) B := fun a o h => by
  unfold cutB at h
  split at h
  · cases h
  · exact h
section
variable {K : PySem.W.Frag}
def isT : HO → Bool
  | .tup _ => true
  | .frz _ (.tup _) => true
  | .ins _ _ _ => true
  | _ => false
def isLs : D → Bool
  | .oi _ _ => false
  | _ => true
mutual
theorem tup_rp {B : Hp} {F : List Addr} (hF : ∀ a ∈ F, ∀ o, B a = some o → isT o = false) : ∀ (p : P) {v : V}, tupO p → Rp K B p v → Rp K (cutB B F) p v
  | .non, _, _, r => r
  | .bl _, _, _, r => r
  | .int _, _, _, r => r
  | .str _, _, _, r => r
  | .ob _, _, _, r => r
  | .ty _, _, _, r => r
  | .tup ps, _, h, ⟨a, vs, e, h1, h2⟩ => by
    refine ⟨a, vs, e, ?_, tups_rp hF ps h h2⟩
    rcases h1 with (h1 | ⟨o, h1⟩) | h1
    · exact .inl (.inl (cutB_in h1 fun hm => by have := hF a hm _ h1; cases this))
    · exact .inl (.inr ⟨o, cutB_in h1 fun hm => by have := hF a hm _ h1; cases this⟩)
    · exact .inr h1
  | .lst _, _, h, _ => h.elim
  | .rol _, _, h, _ => h.elim
  | .dic _, _, h, _ => h.elim
  | .rng _, _, h, _ => h.elim
  | .ins C fs, _, h, ⟨a, dx, fv, e, h1, h2⟩ => ⟨a, dx, fv, e, cutB_in h1 (fun hm => by have := hF a hm _ h1; cases this), tupf_rp hF fs h h2⟩
theorem tups_rp {B : Hp} {F : List Addr} (hF : ∀ a ∈ F, ∀ o, B a = some o → isT o = false) : ∀ (ps : List P) {vs : List V}, tupOs ps → RpA K B ps vs → RpA K (cutB B F) ps vs
  | [], _, _, h => h
  | p :: ps, _, h, ⟨v, r, e, h1, h2⟩ => ⟨v, r, e, tup_rp hF p h.1 h1, tups_rp hF ps h.2 h2⟩
theorem tupf_rp {B : Hp} {F : List Addr} (hF : ∀ a ∈ F, ∀ o, B a = some o → isT o = false) : ∀ (ps : List (Str × P)) {vs : List (Str × V)}, tupOf ps → RpF K B ps vs → RpF K (cutB B F) ps vs
  | [], _, _, h => h
  | (_, p) :: ps, _, h, ⟨v, r, e, h1, h2⟩ => ⟨v, r, e, tup_rp hF p h.1 h1, tupf_rp hF ps h.2 h2⟩
end
theorem RpD.kinds {B H : Hp} : ∀ {d : D} {v : V} {F : List Addr}, isLs d = true → RpD K B H d v F → ∀ a ∈ F, ∃ o, H a = some o ∧ isT o = false
  | .oi _ _, _, _, h, _, _, _ => by cases h
  | .sh p, _, _, _, ⟨e1, _⟩, a, h => by rw [e1] at h; cases h
  | .ol ps, _, _, _, ⟨a, vs, e1, e2, e3, e4⟩, b, h => by
    rw [e1] at h
    rw [List.mem_singleton.mp h]
    exact ⟨_, e3, rfl⟩
  | .od kvs, _, _, _, ⟨a, us, e1, e2, e3, e4⟩, b, h => by
    rw [e1] at h
    rw [List.mem_singleton.mp h]
    exact ⟨_, e3, rfl⟩
  | .oll pss, _, _, _, ⟨a, as, e1, e2, e3, e4, e5⟩, b, h => by
    rw [e1] at h
    rcases List.mem_cons.mp h with h | h
    · rw [h]; exact ⟨_, e3, rfl⟩
    · obtain ⟨i, hi, e⟩ := List.getElem_of_mem h
      have h2 : pss[i]? = some (pss[i]'(by omega)) := List.getElem?_eq_getElem _
      obtain ⟨vs, g1, _⟩ := e5 i b _ (by rw [List.getElem?_eq_getElem hi, e]) h2
      exact ⟨_, g1, rfl⟩
variable {m : Bool} {pn : List Nat} {te ti tj : TE} {de di dj : dE} {dq : dO} {X : Cx} {a b c e : Expr} {pos : Pos}
def dLendT' (i : Nat) (de : dE) : dE := fun env Q => match env[i]? with
  | some (some d) => isLs d = true ∧ de (env.set i (some (.sh d.frz))) fun p _ => tupO p ∧ Q p env
  | _ => False
theorem snd_lendT' {i : Nat} (h : SndE true K te de) : SndE m K te (dLendT' i de) := ⟨fun {B H σ env G QD Q} w q k => by
  unfold dLendT' at q
  split at q
  · rename_i d hd
    obtain ⟨v0, _, rd⟩ := w.sl i d hd
    refine h.run (w.lent hd) q.2 fun p e v B1 H1 G1 q1 w1 r1 s1 u1 => ?_
    obtain ⟨_, _, g⟩ := u1 rfl
    have nb : ∀ a ∈ G i, B a = none := fun a ha => w.nb i a ha
    have eB : Ex B (cutB B1 (G i)) := fun a o ho => cutB_in (g.b a o ((frz_gr w.ex nb).1 a o ho)) fun hm => by rw [nb a hm] at ho; cases ho
    have g2 : Gr B H (cutB B1 (G i)) H1 := ⟨eB, g.h, cutB_ex.trans g.w, fun a o ho hn => by
      unfold cutB
      split
      · rfl
      · rename_i hm
        refine g.n a o ho ?_
        unfold frzB
        rw [if_neg hm]
        exact hn⟩
    refine k p env v _ H1 G q1.2 (w.gr g2) (tup_rp (fun a ha o ho => ?_) p q1.1 r1) g2.stp (.gr g2)
    obtain ⟨vs, hvs, hT⟩ := rd.kinds q.1 a ha
    have := g.w a o ho
    rw [g.h a _ hvs] at this
    cases this
    exact hT
  · exact q.elim⟩
theorem de_lendT (i : Nat) (h : DE true X a te de) : DE m X a te (dLendT' i de) := ⟨h.pe, snd_lendT' h.sd⟩

/-! ### comprehensions, as the text has them -/
structure DTs (m : Bool) (X : Cx) (ifs : List Expr) (tt : TT) (dt : dT) : Prop where
  pe : PTs X ifs tt
  sd : SndT m X.K tt dt
def dYes : dT := fun env Q => Q true env
theorem dts_nil : DTs m X [] tYes dYes := ⟨pts_nil, ⟨fun {B H σ env G QD Q} w q k => k true env B H G q w .refl (.gr (.refl w.ex))⟩⟩
theorem dts_one {tt : TT} {dt : dT} (h : DT m X c tt dt) : DTs m X [c] tt dt := ⟨pts_one h.pe, h.sd⟩
variable {elt tg iter : Expr} {ifs : List Expr} {scope : Scope} {own : List (Str × Nat)} {wi : TI} {g : TG} {tt : TT} {dw : dI} {dg : dG} {dt : dT}
abbrev Blk (X : Cx) (scope : Scope) (s : Shared) (H : Hp) (C : Addr) (cl : List (Str × Addr)) (fp : List Addr) : Cx := X.blk s H scope (compEnvC scope cl C X.env) fp
abbrev z0 : Shared := {}
abbrev z1 : Hp := fun _ => none
/-- what a block's terms may name of the block -/
abbrev BF (α : Type) := Shared → Hp → Addr → List (Str × Addr) → List Addr → α
variable {g' : BF TG} {dg' : BF dG} {tt' : BF TT} {dt' : BF dT} {te' : BF TE} {de' : BF dE} {dq' : BF dO}
theorem do_lc {n : Nat} (hc : X.calm = true) (hN : X.N.Nodup) (hi : DI false X tg iter wi dw) (ok : BlkOk X.N X.env.scope scope own)
    (hg : ∀ s H C cl fp, DG (others n (own.map (·.2))) (Blk X scope s H C cl fp) tg (g' s H C cl fp) (dg' s H C cl fp)) (ht : ∀ s H C cl fp, DTs false (Blk X scope s H C cl fp) ifs (tt' s H C cl fp) (dt' s H C cl fp)) (he : ∀ s H C cl fp, DE false (Blk X scope s H C cl fp) elt (te' s H C cl fp) (de' s H C cl fp))
    (eg : ∀ s H C cl fp, g' s H C cl fp = g' z0 z1 0 [] [] := by intros; rfl) (et : ∀ s H C cl fp, tt' s H C cl fp = tt' z0 z1 0 [] [] := by intros; rfl) (ee : ∀ s H C cl fp, te' s H C cl fp = te' z0 z1 0 [] [] := by intros; rfl)
    (hs : ∀ x, foldedSetIterable iter X.env x = pure x := by intro _; rfl) :
    DO false X (.ListComp elt [⟨tg, iter, ifs, 0⟩] scope pos) (tLc wi (g' z0 z1 0 [] []) (tt' z0 z1 0 [] []) (te' z0 z1 0 [] []) (own.map (·.2))) (dLc dw (dg' z0 z1 0 [] []) (dt' z0 z1 0 [] []) (de' z0 z1 0 [] []) n (own.map (·.2))) :=
  ⟨pe_lc hc hN hi.pe ok (fun s H C cl fp => by rw [← eg s H C cl fp]; exact (hg s H C cl fp).pe) (fun s H C cl fp => by rw [← et s H C cl fp]; exact (ht s H C cl fp).pe) (fun s H C cl fp => by rw [← ee s H C cl fp]; exact (he s H C cl fp).pe) hs,
   snd_lc hi.sd (hg z0 z1 0 [] []).sd (ht z0 z1 0 [] []).sd (he z0 z1 0 [] []).sd⟩
theorem do_lcP {n : Nat} (hc : X.calm = true) (hN : X.N.Nodup) (hi : DI m X tg iter wi dw) (ok : BlkOk X.N X.env.scope scope own)
    (hg : ∀ s H C cl fp, DG (others n (own.map (·.2))) (Blk X scope s H C cl fp) tg (g' s H C cl fp) (dg' s H C cl fp)) (ht : ∀ s H C cl fp, DTs true (Blk X scope s H C cl fp) ifs (tt' s H C cl fp) (dt' s H C cl fp)) (he : ∀ s H C cl fp, DE true (Blk X scope s H C cl fp) elt (te' s H C cl fp) (de' s H C cl fp))
    (eg : ∀ s H C cl fp, g' s H C cl fp = g' z0 z1 0 [] [] := by intros; rfl) (et : ∀ s H C cl fp, tt' s H C cl fp = tt' z0 z1 0 [] [] := by intros; rfl) (ee : ∀ s H C cl fp, te' s H C cl fp = te' z0 z1 0 [] [] := by intros; rfl)
    (hs : ∀ x, foldedSetIterable iter X.env x = pure x := by intro _; rfl) :
    DO m X (.ListComp elt [⟨tg, iter, ifs, 0⟩] scope pos) (tLc wi (g' z0 z1 0 [] []) (tt' z0 z1 0 [] []) (te' z0 z1 0 [] []) (own.map (·.2))) (dLcP dw (dg' z0 z1 0 [] []) (dt' z0 z1 0 [] []) (de' z0 z1 0 [] []) n (own.map (·.2))) :=
  ⟨pe_lc hc hN hi.pe ok (fun s H C cl fp => by rw [← eg s H C cl fp]; exact (hg s H C cl fp).pe) (fun s H C cl fp => by rw [← et s H C cl fp]; exact (ht s H C cl fp).pe) (fun s H C cl fp => by rw [← ee s H C cl fp]; exact (he s H C cl fp).pe) hs,
   snd_lcP hi.sd (hg z0 z1 0 [] []).sd (ht z0 z1 0 [] []).sd (he z0 z1 0 [] []).sd⟩
variable {y : Str} {py spos : Pos}
theorem ds_setLc {i n : Nat} (hc : X.calm = true) (hN : X.N.Nodup) (hy : X.N[i]? = some y) (hyl : X.env.scope.names.lookup y = some .local)
    (hsw : swapsWith (.ListComp elt [⟨tg, iter, ifs, 0⟩] scope pos) (some (.Name y py)) spos.line X.env = pure true) (hp : i ∉ pn) (hi : DI false X tg iter wi dw) (ok : BlkOk X.N X.env.scope scope own)
    (hg : ∀ s H C cl fp, DG (others n (own.map (·.2))) (Blk X scope s H C cl fp) tg (g' s H C cl fp) (dg' s H C cl fp)) (ht : ∀ s H C cl fp, DTs false (Blk X scope s H C cl fp) ifs (tt' s H C cl fp) (dt' s H C cl fp)) (he : ∀ s H C cl fp, DE false (Blk X scope s H C cl fp) elt (te' s H C cl fp) (de' s H C cl fp))
    (eg : ∀ s H C cl fp, g' s H C cl fp = g' z0 z1 0 [] [] := by intros; rfl) (et : ∀ s H C cl fp, tt' s H C cl fp = tt' z0 z1 0 [] [] := by intros; rfl) (ee : ∀ s H C cl fp, te' s H C cl fp = te' z0 z1 0 [] [] := by intros; rfl)
    (hs : ∀ x, foldedSetIterable iter X.env x = pure x := by intro _; rfl) :
    DS pn X (.Assign [.Name y py] (.ListComp elt [⟨tg, iter, ifs, 0⟩] scope pos) spos) (tAsg (tLc wi (g' z0 z1 0 [] []) (tt' z0 z1 0 [] []) (te' z0 z1 0 [] []) (own.map (·.2))) (gName i)) (dPut i (dLc dw (dg' z0 z1 0 [] []) (dt' z0 z1 0 [] []) (de' z0 z1 0 [] []) n (own.map (·.2)))) :=
  ⟨ps_setLc hc hN hy hyl hsw hi.pe ok (fun s H C cl fp => by rw [← eg s H C cl fp]; exact (hg s H C cl fp).pe) (fun s H C cl fp => by rw [← et s H C cl fp]; exact (ht s H C cl fp).pe) (fun s H C cl fp => by rw [← ee s H C cl fp]; exact (he s H C cl fp).pe) hs,
   snd_put hp (snd_lc hi.sd (hg z0 z1 0 [] []).sd (ht z0 z1 0 [] []).sd (he z0 z1 0 [] []).sd)⟩
theorem ds_setLcP {i n : Nat} (hc : X.calm = true) (hN : X.N.Nodup) (hy : X.N[i]? = some y) (hyl : X.env.scope.names.lookup y = some .local)
    (hsw : swapsWith (.ListComp elt [⟨tg, iter, ifs, 0⟩] scope pos) (some (.Name y py)) spos.line X.env = pure true) (hp : i ∉ pn) (hi : DI false X tg iter wi dw) (ok : BlkOk X.N X.env.scope scope own)
    (hg : ∀ s H C cl fp, DG (others n (own.map (·.2))) (Blk X scope s H C cl fp) tg (g' s H C cl fp) (dg' s H C cl fp)) (ht : ∀ s H C cl fp, DTs true (Blk X scope s H C cl fp) ifs (tt' s H C cl fp) (dt' s H C cl fp)) (he : ∀ s H C cl fp, DE true (Blk X scope s H C cl fp) elt (te' s H C cl fp) (de' s H C cl fp))
    (eg : ∀ s H C cl fp, g' s H C cl fp = g' z0 z1 0 [] [] := by intros; rfl) (et : ∀ s H C cl fp, tt' s H C cl fp = tt' z0 z1 0 [] [] := by intros; rfl) (ee : ∀ s H C cl fp, te' s H C cl fp = te' z0 z1 0 [] [] := by intros; rfl)
    (hs : ∀ x, foldedSetIterable iter X.env x = pure x := by intro _; rfl) :
    DS pn X (.Assign [.Name y py] (.ListComp elt [⟨tg, iter, ifs, 0⟩] scope pos) spos) (tAsg (tLc wi (g' z0 z1 0 [] []) (tt' z0 z1 0 [] []) (te' z0 z1 0 [] []) (own.map (·.2))) (gName i)) (dPut i (dLcP dw (dg' z0 z1 0 [] []) (dt' z0 z1 0 [] []) (de' z0 z1 0 [] []) n (own.map (·.2)))) :=
  ⟨ps_setLc hc hN hy hyl hsw hi.pe ok (fun s H C cl fp => by rw [← eg s H C cl fp]; exact (hg s H C cl fp).pe) (fun s H C cl fp => by rw [← et s H C cl fp]; exact (ht s H C cl fp).pe) (fun s H C cl fp => by rw [← ee s H C cl fp]; exact (he s H C cl fp).pe) hs,
   snd_put hp (snd_lcP hi.sd (hg z0 z1 0 [] []).sd (ht z0 z1 0 [] []).sd (he z0 z1 0 [] []).sd)⟩
/-! ### a list of own lists -/
structure AccO (K : PySem.W.Frag) (B H : Hp) (G : Fp) (l : Addr) (as : List Addr) (pss : List (List P)) : Prop where
  at_ : H l = some (.lst (as.map V.ref))
  len : as.length = pss.length
  its : ∀ (i : Nat) (b : Addr) (ps : List P), as[i]? = some b → pss[i]? = some ps → ∃ vs, H b = some (.lst vs) ∧ RpA K B ps vs
  nd : (l :: as).Nodup
  nb : ∀ a ∈ l :: as, B a = none
  ap : ∀ a ∈ l :: as, ∀ i, a ∉ G i
theorem AccO.there {B H : Hp} {G : Fp} {l : Addr} {as : List Addr} {pss : List (List P)} (x : AccO K B H G l as pss) : ∀ a ∈ l :: as, ∃ o, H a = some o := fun a h => by
  rcases List.mem_cons.mp h with h | h
  · rw [h]; exact ⟨_, x.at_⟩
  · obtain ⟨i, hi, e⟩ := List.getElem_of_mem h
    have h2 : pss[i]? = some (pss[i]'(by have := x.len; omega)) := List.getElem?_eq_getElem _
    obtain ⟨vs, g1, _⟩ := x.its i a _ (by rw [List.getElem?_eq_getElem hi, e]) h2
    exact ⟨_, g1⟩
theorem AccO.stp {B H B' H' : Hp} {G G' : Fp} {l : Addr} {as : List Addr} {pss : List (List P)} (a : AccO K B H G l as pss) (s : Stp B H G B' H' G') : AccO K B' H' G' l as pss where
  at_ := s.kp l _ a.at_ (a.ap l List.mem_cons_self)
  len := a.len
  its := fun i b ps h1 h2 => by
    obtain ⟨vs, g1, g2⟩ := a.its i b ps h1 h2
    exact ⟨vs, s.kp b _ g1 (a.ap b (List.mem_cons_of_mem _ (List.mem_of_getElem? h1))), RpA.mono s.ex ps g2⟩
  nd := a.nd
  nb := fun x hx => by
    obtain ⟨o, ho⟩ := a.there x hx
    exact s.bs x o ho (a.nb x hx) (a.ap x hx)
  ap := fun x hx i hi => by
    obtain ⟨o, ho⟩ := a.there x hx
    rcases s.fp i x hi with ⟨j, hj⟩ | hn
    · exact a.ap x hx j hj
    · rw [ho] at hn; cases hn
theorem AccO.gsub {B H : Hp} {G G' : Fp} {l : Addr} {as : List Addr} {pss : List (List P)} (a : AccO K B H G l as pss) (h : ∀ i x, x ∈ G' i → ∃ j, x ∈ G j) : AccO K B H G' l as pss :=
  ⟨a.at_, a.len, a.its, a.nd, a.nb, fun x hx i hi => by
    obtain ⟨j, hj⟩ := h i x hi
    exact a.ap x hx j hj⟩
theorem AccO.wd {B H : Hp} {σ : L2.St} {env : Env} {G : Fp} {l : Addr} {as : List Addr} {pss : List (List P)} {u : HO} (a : AccO K B H G l as pss) (w : Wd K B H σ env G) : Wd K B (upd H l u) σ env G where
  rf := w.rf
  ex := fun x o h => by rw [upd_ne (ne_of_none h (a.nb l List.mem_cons_self))]; exact w.ex x o h
  sl := fun i d e => by
    obtain ⟨v, h1, h2⟩ := w.sl i d e
    refine ⟨v, h1, RpD.mono (Ex.refl B) h2 fun x hx o ho => ?_⟩
    rw [upd_ne fun q => a.ap l List.mem_cons_self i (by rw [← q]; exact hx)]
    exact ho
  no := w.no
  nd := w.nd
  dj := w.dj
  nb := w.nb
  len := w.len
def ownL : D → Option (List P)
  | .ol ps => some ps
  | _ => none
def dLcO (di : dI) (dg : dG) (dq : dO) (n : Nat) (vs : List Nat) : dO := fun env Q => di env fun ps env1 => lenE n env1 = true ∧ ∃ Inv : Nat → List (List P) → Env → Prop, Inv 0 [] env1 ∧
  (∀ i p acc e, ps[i]? = some p → Inv i acc e → dg p (wipeE e vs) fun e2 => dq e2 fun y e4 => acc.length < sizeLine ∧ ∃ qs, ownL y = some qs ∧ Inv (i + 1) (acc ++ [qs]) (wipeE e4 vs)) ∧
  ∀ acc e, Inv ps.length acc e → Q (.oll acc) e
theorem snd_lcO {n : Nat} {vs : List Nat} (hi : SndI m K wi dw) (hg : SndG (others n vs) K g dg) (he : SndO false K te dq) : SndO false K (tLc wi g tYes te vs) (dLcO dw dg dq n vs) := ⟨fun {B H σ env G QD Q} w q k => by
  refine hi.run w q fun ps env1 B1 H1 G1 J q1 w1 s1 _ hJ => ?_
  obtain ⟨hn, Inv, i0, turn, done⟩ := q1
  have hσ : σ.length ≤ n := by rw [← w1.len]; exact lenE_le hn
  intro l hl
  let Wx : Nat → Hp → Prop := fun i H' => ∃ acc as env' B' G', Inv i acc env' ∧ Wd K B' H' σ env' G' ∧ Stp B1 H1 G1 B' H' G' ∧ AccO K B' H' G' l as acc ∧ (∀ a ∈ as, (∃ j, a ∈ G1 j) ∨ H1 a = none)
  refine ⟨fun i mm H' => mm = ps.length - i ∧ i ≤ ps.length ∧ Wx i H', ⟨_, rfl, Nat.zero_le _, [], [], env1, B1, G1, i0, ?_, stp_new hl, ⟨upd_same, rfl, fun i b qs h1 h2 => by simp at h1, by simp, fun a ha => by rw [List.mem_singleton.mp ha]; exact w1.ex.back hl, fun a ha i hi => by rw [List.mem_singleton.mp ha] at hi; exact w1.off hl i hi⟩, fun a ha => absurd ha List.not_mem_nil⟩, ?_⟩
  · exact w1.gr ⟨Ex.refl _, fun a u k => by rw [upd_ne (ne_of_none k hl)]; exact k, fun a u k => by rw [upd_ne (ne_of_none (w1.ex a u k) hl)]; exact w1.ex a u k, fun a u k n => n⟩
  rintro i mm H' ⟨rfl, hle, acc, as, env', B', G', hI, w', s', a', nw⟩
  obtain ⟨hgo, hst⟩ := hJ B' H' i s'.ex w'.ex hle
  by_cases hlt : i < ps.length
  · obtain ⟨go, yl⟩ := hgo ps[i] (List.getElem?_eq_getElem hlt)
    refine .inr ⟨go, Wx (i + 1), fun H2 h2 => ⟨ps.length - (i + 1), by omega, rfl, hlt, h2⟩, fun x H2 y => ?_⟩
    obtain ⟨B2, g2, r2⟩ := yl x H2 y
    have w2 := (w'.gr g2).wipe vs
    have s2 := (s'.trans (g2.stp (G := G'))).wipeG (vs := vs)
    have a2 := a'.stp (G' := wipeG G' vs) ((g2.stp (G := G')).wipeG (vs := vs))
    refine hg.run w2 r2 (turn i ps[i] acc env' (List.getElem?_eq_getElem hlt) hI) fun env3 σ3 G3 q3 w3 g3 p3 => ?_
    have hw3 := wipe_pin p3 hσ
    have hl3 : σ3.length = σ.length := by rw [p3.1, L2.wipe_length]
    refine ⟨hw3, ?_⟩
    have s3 := s2.trans (stp_g g3)
    have a3 := a2.stp (stp_g g3)
    show if true = true then (te σ3 H2 fun y H4 => ∃ acc, H4 l = some (HO.lst acc) ∧ acc.length < sizeLine ∧ Wx (i + 1) (upd H4 l (HO.lst (acc ++ [y])))) else Wx (i + 1) H2
    rw [if_pos rfl]
    refine he.run w3 q3 fun d5 env5 v5 F5 B5 H5 G5 q5 w5 o5 s5 _ => ?_
    obtain ⟨hlen, qs, hq, q5⟩ := q5
    have st5 := s3.trans s5
    have a5 := a3.stp s5
    have hd : d5 = .ol qs := by
      cases d5 with
      | ol zs => cases hq; rfl
      | _ => cases hq
    subst hd
    obtain ⟨b, ws, rfl, rfl, hb, rb⟩ := o5.rp
    have hbm : b ∉ l :: as := fun hm => by
      rcases o5.nw b List.mem_cons_self with ⟨j, hj⟩ | hx
      · exact a3.ap b hm j hj
      · obtain ⟨o, ho⟩ := a3.there b hm
        rw [hx] at ho; cases ho
    have hbl : b ≠ l := fun q => hbm (by rw [q]; exact List.mem_cons_self)
    refine ⟨as.map V.ref, a5.at_, by rw [List.length_map, a5.len]; exact hlen, acc ++ [qs], as ++ [b], wipeE env5 vs, B5, wipeG G5 vs, q5, ?_, (st5.wipeG).grow hl, ⟨?_, ?_, ?_, ?_, ?_, ?_⟩, ?_⟩
    · exact (a5.gsub fun i x hx => ⟨i, wipeG_sub hx⟩).wd (w5.unwipe hw3 hl3)
    · rw [upd_same, List.map_append]; rfl
    · rw [List.length_append, List.length_append, a5.len]; rfl
    · intro j c zs h1 h2
      by_cases hj : j < as.length
      · rw [List.getElem?_append_left hj] at h1
        rw [List.getElem?_append_left (by rw [← a5.len]; exact hj)] at h2
        obtain ⟨us, g1, g2⟩ := a5.its j c zs h1 h2
        refine ⟨us, ?_, g2⟩
        rw [upd_ne fun q => (List.nodup_cons.mp a5.nd).1 (by rw [← q]; exact List.mem_of_getElem? h1)]
        exact g1
      · have hj2 : j = as.length := by
          have := (List.getElem?_eq_some_iff.mp h1).1
          rw [List.length_append, List.length_singleton] at this
          omega
        subst hj2
        rw [List.getElem?_append_right (Nat.le_refl _), Nat.sub_self] at h1
        rw [a5.len, List.getElem?_append_right (Nat.le_refl _), Nat.sub_self] at h2
        cases h1
        cases h2
        exact ⟨ws, by rw [upd_ne hbl]; exact hb, rb⟩
    · rw [← List.cons_append]
      refine List.nodup_append.mpr ⟨a5.nd, by simp, fun x hx y hy => ?_⟩
      rw [List.mem_singleton.mp hy]
      exact fun q => hbm (by rw [← q]; exact hx)
    · intro x hx
      rw [← List.cons_append] at hx
      rcases List.mem_append.mp hx with hx | hx
      · exact a5.nb x hx
      · rw [List.mem_singleton.mp hx]; exact o5.nb b List.mem_cons_self
    · intro x hx j hj
      rw [← List.cons_append] at hx
      rcases List.mem_append.mp hx with hx | hx
      · exact a5.ap x hx j (wipeG_sub hj)
      · rw [List.mem_singleton.mp hx] at hj; exact o5.ap b List.mem_cons_self j (wipeG_sub hj)
    · intro x hx
      rcases List.mem_append.mp hx with hx | hx
      · exact nw x hx
      · rw [List.mem_singleton.mp hx]
        rcases o5.nw b List.mem_cons_self with ⟨j, hj⟩ | hz
        · exact s3.fp j b hj
        · by_cases hgx : ∃ j, b ∈ G1 j
          · exact .inl hgx
          · right
            cases hh : H1 b with
            | none => rfl
            | some o =>
              have := s3.kp b o hh fun j hj => hgx ⟨j, hj⟩
              rw [hz] at this; cases this
  · have e : i = ps.length := by omega
    subst e
    refine .inl ⟨hst (Nat.le_refl _), k (.oll acc) env' (.ref l) (l :: as) B' H' G' (done acc env' hI) w' ⟨⟨l, as, rfl, rfl, a'.at_, a'.len, a'.its⟩, a'.nd, a'.nb, fun a ha => ?_, a'.ap⟩ (s1.trans s') .off⟩
    rcases List.mem_cons.mp ha with ha | ha
    · rw [ha]; exact .inr (s1.back hl)
    · rcases nw a ha with ⟨j, hj⟩ | hx
      · exact s1.fp j a hj
      · exact .inr (s1.back hx)⟩
theorem do_lcO {n : Nat} (hc : X.calm = true) (hN : X.N.Nodup) (hi : DI false X tg iter wi dw) (ok : BlkOk X.N X.env.scope scope own)
    (hg : ∀ s H C cl fp, DG (others n (own.map (·.2))) (Blk X scope s H C cl fp) tg (g' s H C cl fp) (dg' s H C cl fp)) (he : ∀ s H C cl fp, DO false (Blk X scope s H C cl fp) elt (te' s H C cl fp) (dq' s H C cl fp))
    (eg : ∀ s H C cl fp, g' s H C cl fp = g' z0 z1 0 [] [] := by intros; rfl) (ee : ∀ s H C cl fp, te' s H C cl fp = te' z0 z1 0 [] [] := by intros; rfl)
    (hs : ∀ x, foldedSetIterable iter X.env x = pure x := by intro _; rfl) :
    DO false X (.ListComp elt [⟨tg, iter, [], 0⟩] scope pos) (tLc wi (g' z0 z1 0 [] []) tYes (te' z0 z1 0 [] []) (own.map (·.2))) (dLcO dw (dg' z0 z1 0 [] []) (dq' z0 z1 0 [] []) n (own.map (·.2))) :=
  ⟨pe_lc hc hN hi.pe ok (fun s H C cl fp => by rw [← eg s H C cl fp]; exact (hg s H C cl fp).pe) (fun s H C cl fp => pts_nil) (fun s H C cl fp => by rw [← ee s H C cl fp]; exact (he s H C cl fp).pe) hs,
   snd_lcO hi.sd (hg z0 z1 0 [] []).sd (he z0 z1 0 [] []).sd⟩
theorem ds_setLcO {i n : Nat} (hc : X.calm = true) (hN : X.N.Nodup) (hy : X.N[i]? = some y) (hyl : X.env.scope.names.lookup y = some .local)
    (hsw : swapsWith (.ListComp elt [⟨tg, iter, [], 0⟩] scope pos) (some (.Name y py)) spos.line X.env = pure true) (hp : i ∉ pn) (hi : DI false X tg iter wi dw) (ok : BlkOk X.N X.env.scope scope own)
    (hg : ∀ s H C cl fp, DG (others n (own.map (·.2))) (Blk X scope s H C cl fp) tg (g' s H C cl fp) (dg' s H C cl fp)) (he : ∀ s H C cl fp, DO false (Blk X scope s H C cl fp) elt (te' s H C cl fp) (dq' s H C cl fp))
    (eg : ∀ s H C cl fp, g' s H C cl fp = g' z0 z1 0 [] [] := by intros; rfl) (ee : ∀ s H C cl fp, te' s H C cl fp = te' z0 z1 0 [] [] := by intros; rfl)
    (hs : ∀ x, foldedSetIterable iter X.env x = pure x := by intro _; rfl) :
    DS pn X (.Assign [.Name y py] (.ListComp elt [⟨tg, iter, [], 0⟩] scope pos) spos) (tAsg (tLc wi (g' z0 z1 0 [] []) tYes (te' z0 z1 0 [] []) (own.map (·.2))) (gName i)) (dPut i (dLcO dw (dg' z0 z1 0 [] []) (dq' z0 z1 0 [] []) n (own.map (·.2)))) :=
  ⟨ps_setLc hc hN hy hyl hsw hi.pe ok (fun s H C cl fp => by rw [← eg s H C cl fp]; exact (hg s H C cl fp).pe) (fun s H C cl fp => pts_nil) (fun s H C cl fp => by rw [← ee s H C cl fp]; exact (he s H C cl fp).pe) hs,
   snd_put hp (snd_lcO hi.sd (hg z0 z1 0 [] []).sd (he z0 z1 0 [] []).sd)⟩
/-! ### i[j][k] = e, of a list of own lists -/
def ixQQ (q : P) (o : Option (Option D)) (f : Int → List (List P) → Prop) : Prop := match q, o with
  | .int k, some (some (.oll pss)) => f k pss
  | _, _ => False
theorem ixQQ_is {q : P} {o : Option (Option D)} {f : Int → List (List P) → Prop} (h : ixQQ q o f) : ∃ k pss, q = .int k ∧ o = some (some (.oll pss)) ∧ f k pss := by
  unfold ixQQ at h
  split at h
  · exact ⟨_, _, rfl, rfl, h⟩
  · exact h.elim
def isInt : P → (Int → Prop) → Prop
  | .int i, f => f i
  | _, _ => False
theorem isInt_is {p : P} {f : Int → Prop} (h : isInt p f) : ∃ i, p = .int i ∧ f i := by
  unfold isInt at h
  split at h
  · exact ⟨_, rfl, h⟩
  · exact h.elim
def dSetII (i : Nat) (dj dk de : dE) : dS := fun Dd env => de env fun p e1 => match e1[i]? with
  | some (some (.oll _)) => dj e1 fun q1 e2 => ixQQ q1 e2[i]? fun k1 pss => ∃ j1 ps, ixN pss.length k1 = some j1 ∧ pss[j1]? = some ps ∧ dk e2 fun q2 e3 => isInt q2 fun k2 => e3[i]? = e2[i]? ∧ ∃ j2, ixN ps.length k2 = some j2 ∧ Dd.nx (e3.set i (some (.oll (pss.set j1 (ps.set j2 p)))))
  | _ => False
theorem snd_setII {i : Nat} (hj : SndE true K tj dj) (hk : SndE true K ti di) (h : SndE m K te de) : SndS pn K (tAsg te (gSub (tOp (rIxL K) (tVar i) tj) ti rSetL)) (dSetII i dj di de) := ⟨fun {B H σ env G Dd D} w q n r k1 k2 => by
  refine h.run w q fun p e1 v2 B1 H1 G1 q1 w1 r1 s1 _ => ?_
  change (match e1[i]? with | some (some (.oll _)) => dj e1 _ | _ => False) at q1
  split at q1
  · rename_i pss0 hd
    obtain ⟨v, h1, a0, as0, hG, rfl, h4, h5, h6⟩ := w1.sl i _ hd
    refine ⟨.ref a0, h1, ?_⟩
    refine hj.run w1 q1 fun qq e2 v3 B2 H2 G2 q2 w2 r2 s2 u2 => ?_
    obtain ⟨rfl, rfl, g2⟩ := u2 rfl
    obtain ⟨kk, pss, rfl, hd2, j1, ps, x1, x2, q2⟩ := ixQQ_is q2
    rw [hd] at hd2
    cases hd2
    obtain ⟨v4, z1, a1, as, z2, z3, z4, z5, z6⟩ := w2.sl i _ hd
    rw [h1] at z1
    cases z1
    cases z3
    rw [hG] at z2
    cases z2
    have hj1 : j1 < as0.length := by rw [h5]; exact (List.getElem?_eq_some_iff.mp x2).1
    have ha1 : as0[j1]? = some as0[j1] := List.getElem?_eq_getElem hj1
    refine ⟨a0, as0.map V.ref, kk, .ref as0[j1], rfl, r2, SqL.of z4, ?_, ?_⟩
    · unfold atI
      rw [List.length_map, h5, x1]
      show (as0.map V.ref)[j1]? = _
      rw [List.getElem?_map, ha1]
      rfl
    refine hk.run w2 q2 fun q3 e3 v5 B3 H3 G3 q4 w3 r3 s3 u3 => ?_
    obtain ⟨rfl, rfl, g3⟩ := u3 rfl
    obtain ⟨k2', rfl, _, j2, y1, q4⟩ := isInt_is q4
    obtain ⟨v6, t1, a3, as3, t2, t3, t4, t5, t6⟩ := w3.sl i _ hd
    rw [h1] at t1
    cases t1
    cases t3
    rw [hG] at t2
    cases t2
    obtain ⟨us, f1, f2⟩ := t6 j1 _ ps ha1 x2
    refine ⟨as0[j1], us, k2', j2, rfl, r3, f1, by rw [f2.length]; exact y1, ?_⟩
    have nd : (a0 :: as0).Nodup := by have := w3.nd i; rw [hG] at this; exact this
    have hm : as0[j1] ∈ as0 := List.getElem_mem hj1
    have rp' : Rp K B3 p v2 := Rp.mono (s2.ex.trans s3.ex) p r1
    obtain ⟨w4, s4⟩ := w3.chg (d' := .oll (pss0.set j1 (ps.set j2 p))) (o := .lst (us.set j2 v2)) (l := as0[j1]) hd h1 (by rw [hG]; exact List.mem_cons_of_mem _ hm) ⟨a0, as0, hG, rfl, by
        rw [upd_ne fun q => (List.nodup_cons.mp nd).1 (by rw [q]; exact hm)]; exact t4, by rw [List.length_set]; exact t5, fun ii b qs g1 g2 => by
        by_cases hii : j1 = ii
        · subst hii
          rw [ha1] at g1
          cases g1
          rw [List.getElem?_set_self (by rw [← t5]; exact hj1)] at g2
          cases g2
          exact ⟨_, upd_same, f2.set rp'⟩
        · rw [List.getElem?_set_ne hii] at g2
          obtain ⟨ws, c1, c2⟩ := t6 ii b qs g1 g2
          refine ⟨ws, ?_, c2⟩
          rw [upd_ne fun q => ?_]
          · exact c1
          · have hlt := (List.getElem?_eq_some_iff.mp g1)
            obtain ⟨hl, he⟩ := hlt
            have : as0[ii] = as0[j1] := by rw [he, q]
            exact hii ((List.getElem_inj (List.nodup_cons.mp nd).2).mp this).symm⟩
    exact n _ σ B3 _ G3 q4 w4 (((s1.trans s2).trans s3).trans s4) .refl
  · exact q1.elim⟩
theorem ds_setII {i : Nat} {tg : Expr} (hg : PE X b ti → PE X c tj → PG X tg (gSub (tOp (rIxL X.K) (tVar i) tj) ti rSetL)) (hj : DE true X c tj dj) (hk : DE true X b ti di) (he : DE false X e te de)
    (hs : swapsWithSole [tg] e pos.line X.env = pure false := by rfl) (hw : swappedStores [tg] e X.env = pure none := by rfl) (h1 : (assignEach [tg] X.env).map (·.2) = [assign tg X.env] := by rfl) :
    DS pn X (.Assign [tg] e pos) (tAsg te (gSub (tOp (rIxL X.K) (tVar i) tj) ti rSetL)) (dSetII i dj di de) := ⟨ps_asg he.pe (hg hk.pe hj.pe) hs hw h1, snd_setII hj.sd hk.sd he.sd⟩
/-! ### [x] * n, where [x] is written -/
theorem oo_rep : OpO K rRep dRep := ⟨fun {B H x y p q QD Q} e rx ry r k => by
  cases p with
  | lst xs =>
    cases q with
    | int nn =>
      obtain ⟨a, vs, rfl, h1, h2⟩ := rx
      obtain ⟨r1, r2, r3, r4⟩ := r
      refine ⟨a, nn, vs, rfl, ry, e a _ h1, r1, r2, by rw [h2.length]; exact r3, fun l hl => ?_⟩
      have g : Gr B H B (upd H l (.lst (List.replicate nn.toNat vs).flatten)) := ⟨Ex.refl _, fun a u k => by rw [upd_ne (ne_of_none k hl)]; exact k, fun a u k => by rw [upd_ne (ne_of_none (e a u k) hl)]; exact e a u k, fun a u k n => n⟩
      exact k _ B _ _ [l] r4 ⟨l, _, rfl, rfl, upd_same, rep_flat h2 _⟩ (by simp) (fun a ha => by rw [List.mem_singleton.mp ha]; exact e.back hl) (fun a ha => by rw [List.mem_singleton.mp ha]; exact hl) g
    | _ => exact r.elim
  | _ => exact r.elim⟩
/-! ### slices -/
def cutP (ps : List P) (lo hi : Option Int) : List P := (ps.drop (HT.sIx ps.length 0 lo)).take (HT.sIx ps.length ps.length hi - HT.sIx ps.length 0 lo)
theorem cut_rp {B : Hp} {ps : List P} {vs : List V} (h : RpA K B ps vs) (lo hi : Option Int) : RpA K B (cutP ps lo hi) (cutV vs lo hi) := by
  unfold cutP cutV
  rw [h.length]
  exact (h.drop _).take _
abbrev dPO := Env → (Option Int → Env → Prop) → Prop
structure SndP (m : Bool) (K : PySem.W.Frag) (to : TO) (dp : dPO) : Prop where
  run : ∀ {B H : Hp} {σ : L2.St} {env : Env} {G : Fp} {QD : Option Int → Env → Prop} {Q : Option Int → Hp → Prop}, Wd K B H σ env G → dp env QD →
    (∀ o env' B' H' G', QD o env' → Wd K B' H' σ env' G' → Stp B H G B' H' G' → Pure m env env' G G' B H B' H' → Q o H') → to σ H Q
structure DPO (m : Bool) (X : Cx) (e : Option Expr) (to : TO) (dp : dPO) : Prop where
  pe : PO X e to
  sd : SndP m X.K to dp
def dNoPart : dPO := fun env Q => Q none env
def dPart (de : dE) : dPO := fun env Q => de env fun p e => isInt p fun i => Q (some i) e
theorem dpo_none : DPO m X none tNoPart dNoPart := ⟨po_none, ⟨fun {B H σ env G QD Q} w q k => k none env B H G q w .refl (.gr (.refl w.ex))⟩⟩
theorem dpo_some (h : DE m X e te de) : DPO m X (some e) (tPart te) (dPart de) := ⟨po_some h.pe, ⟨fun w q k => h.sd.run w q fun p e v B H G q1 w1 r1 s1 u1 => by
  obtain ⟨i, rfl, q1⟩ := isInt_is q1
  exact ⟨i, r1, k _ e B H G q1 w1 s1 u1⟩⟩⟩
def dSlL (de : dE) (lo hi : dPO) : dO := fun env Q => de env fun p e => lo e fun l e1 => hi e1 fun u e2 => match plst p with
  | some ps => Q (.ol (cutP ps l u)) e2
  | none => False
theorem snd_slL {tl th : TO} {lo hi : dPO} (h : SndE m K te de) (hl : SndP m K tl lo) (hu : SndP m K th hi) : SndO m K (tSl (rSlL K) te tl th) (dSlL de lo hi) := ⟨fun {B H σ env G QD Q} w q k =>
  h.run w q fun p e v B1 H1 G1 q1 w1 r1 s1 u1 => hl.run w1 q1 fun l e1 B2 H2 G2 q2 w2 s2 u2 => hu.run w2 q2 fun u e2 B3 H3 G3 q3 w3 s3 u3 => by
    change (match plst p with | some ps => QD (.ol (cutP ps l u)) e2 | none => False) at q3
    split at q3
    · rename_i ps hp
      obtain ⟨a, vs, rfl, h2, h3⟩ := plst_rp r1 hp
      have st := (s1.trans s2).trans s3
      refine ⟨a, vs, rfl, w3.ex.sqL ((s2.ex.trans s3.ex).sqL h2), fun p hp => ?_⟩
      obtain ⟨w4, o4, g4⟩ := own_new w3 hp (st.back hp) (RpA.mono (s2.ex.trans s3.ex) _ (cut_rp h3 l u))
      exact k _ e2 _ [p] B3 _ G3 q3 w4 o4 (st.trans g4.stp) (((u1.trans u2).trans u3).trans (.gr g4))
    · exact q3.elim⟩
theorem do_slL {lo hi : Option Expr} {tl th : TO} {dl dh : dPO} {p2 : Pos} (h : DE m X e te de) (hl : DPO m X lo tl dl) (hu : DPO m X hi th dh) : DO m X (.Subscript e (.Slice lo hi none p2) pos) (tSl (rSlL X.K) te tl th) (dSlL de dl dh) :=
  ⟨pe_slice sl_list h.pe hl.pe hu.pe, snd_slL h.sd hl.sd hu.sd⟩
/-- of a list or a tuple: plain -/
def dSlS (de : dE) (lo hi : dPO) : dE := fun env Q => de env fun p e => lo e fun l e1 => hi e1 fun u e2 => match p with
  | .lst ps => Q (.lst (cutP ps l u)) e2
  | .rol ps => Q (.lst (cutP ps l u)) e2
  | .tup ps => ¬ (HT.sIx ps.length 0 l = 0 ∧ HT.sIx ps.length ps.length u = ps.length) ∧ Q (.tup (cutP ps l u)) e2
  | _ => False
def rSlS (K : PySem.W.Frag) : V → Option Int → Option Int → Hp → VK → Prop := fun x lo hi H Q => rSlL K x lo hi H Q ∨ rSlT K x lo hi H Q
theorem sl_seq : SlR X (rSlS X.K) := SlR.or sl_list sl_tup
theorem snd_slS {tl th : TO} {lo hi : dPO} (h : SndE m K te de) (hl : SndP m K tl lo) (hu : SndP m K th hi) : SndE m K (tSl (rSlS K) te tl th) (dSlS de lo hi) := ⟨fun {B H σ env G QD Q} w q k =>
  h.run w q fun p e v B1 H1 G1 q1 w1 r1 s1 u1 => hl.run w1 q1 fun l e1 B2 H2 G2 q2 w2 s2 u2 => hu.run w2 q2 fun u e2 B3 H3 G3 q3 w3 s3 u3 => by
    have st := (s1.trans s2).trans s3
    have ex := s2.ex.trans s3.ex
    have pu := (u1.trans u2).trans u3
    cases p with
    | lst ps =>
      obtain ⟨a, vs, rfl, h2, h3⟩ := r1
      refine .inl ⟨a, vs, rfl, SqL.of (w3.ex a _ (ex a _ h2)), fun p hp => ?_⟩
      have g4 := gr_new (o := .lst (cutV vs l u)) w3.ex hp
      exact k _ e2 _ _ _ G3 q3 (w3.gr g4) ⟨p, _, rfl, upd_same, RpA.mono (ex.trans g4.b) _ (cut_rp h3 l u)⟩ (st.trans g4.stp) (pu.trans (.gr g4))
    | rol ps =>
      obtain ⟨a, vs, rfl, h2, h3⟩ := r1
      refine .inl ⟨a, vs, rfl, w3.ex.sqL (ex.sqL h2), fun p hp => ?_⟩
      have g4 := gr_new (o := .lst (cutV vs l u)) w3.ex hp
      exact k _ e2 _ _ _ G3 q3 (w3.gr g4) ⟨p, _, rfl, upd_same, RpA.mono (ex.trans g4.b) _ (cut_rp h3 l u)⟩ (st.trans g4.stp) (pu.trans (.gr g4))
    | tup ps =>
      obtain ⟨a, vs, rfl, h2, h3⟩ := r1
      refine .inr ⟨a, vs, rfl, w3.ex.sqT (ex.sqT h2), by rw [h3.length]; exact q3.1, fun p hp => ?_⟩
      have g4 := gr_new (o := .tup (cutV vs l u)) w3.ex hp
      exact k _ e2 _ _ _ G3 q3.2 (w3.gr g4) ⟨p, _, rfl, SqT.of upd_same, RpA.mono (ex.trans g4.b) _ (cut_rp h3 l u)⟩ (st.trans g4.stp) (pu.trans (.gr g4))
    | _ => exact q3.elim⟩
theorem de_slS {lo hi : Option Expr} {tl th : TO} {dl dh : dPO} {p2 : Pos} (h : DE m X e te de) (hl : DPO m X lo tl dl) (hu : DPO m X hi th dh) : DE m X (.Subscript e (.Slice lo hi none p2) pos) (tSl (rSlS X.K) te tl th) (dSlS de dl dh) :=
  ⟨pe_slice sl_seq h.pe hl.pe hu.pe, snd_slS h.sd hl.sd hu.sd⟩
/-! ### calls with keywords -/
def tCat (t tk : TA) : TA := fun σ H Q => t σ H fun vs H1 => tk σ H1 fun zs H2 => Q (vs ++ zs) H2
def dCat (d dk : dA) : dA := fun env Q => d env fun as e => dk e fun bs e2 => Q (as ++ bs) e2
theorem RpX.cat {B : Hp} {σ : L2.St} : ∀ {as bs : List AR} {vs us : List V}, RpX K B σ as vs → RpX K B σ bs us → RpX K B σ (as ++ bs) (vs ++ us)
  | [], _, _, _, h, g => by rw [show _ = ([] : List V) from h]; exact g
  | .inl p :: as, _, _, us, ⟨v, r, e1, e2, e3⟩, g => ⟨v, r ++ us, by rw [e1]; rfl, e2, RpX.cat e3 g⟩
  | .inr i :: as, _, _, us, ⟨v, r, e1, e2, e3⟩, g => ⟨v, r ++ us, by rw [e1]; rfl, e2, RpX.cat e3 g⟩
theorem snd_cat {t tk : TA} {d dk : dA} (h : SndA m K t d) (g : SndA m K tk dk) : SndA m K (tCat t tk) (dCat d dk) := ⟨fun w q k => h.run w q fun as e vs B1 H1 G1 q1 w1 r1 s1 u1 => g.run w1 q1 fun bs e2 us B2 H2 G2 q2 w2 r2 s2 u2 =>
  k _ e2 _ B2 H2 G2 q2 w2 ((RpX.mono s2.ex r1).cat r2) (s1.trans s2) (u1.trans u2)⟩
structure DK (m : Bool) (X : Cx) (kws : List Keyword) (t : TA) (d : dA) : Prop where
  pe : PK X kws t
  sd : SndA m X.K t d
theorem dk_nil : DK m X [] tNil dNil := ⟨pk_nil, snd_nil⟩
theorem dk_cons {nm : Option Str} {kpos : Pos} {kws : List Keyword} {t : TA} {d : dA} (h : DE m X e te de) (g : DK m X kws t d) : DK m X (⟨nm, e, kpos⟩ :: kws) (tCons te t) (dCons de d) := ⟨pk_cons h.pe g.pe, snd_cons h.sd g.sd⟩
/-- what is positional, then the keywords -/
def gK {α : Type} (n k : Nat) (us ws : List α) : List α := if us.length = n ∧ ws.length = k then us ++ ws else []
def dCatK (n k : Nat) (d dk : dA) : dA := fun env Q => d env fun as e => dk e fun bs e2 => (as.length = n ∧ bs.length = k) ∧ Q (as ++ bs) e2
def tCatK (n k : Nat) (t tk : TA) : TA := fun σ H Q => t σ H fun vs H1 => tk σ H1 fun zs H2 => Q (gK n k vs zs) H2
theorem snd_catK {n k : Nat} {t tk : TA} {d dk : dA} (h : SndA m K t d) (g : SndA m K tk dk) : SndA m K (tCatK n k t tk) (dCatK n k d dk) := ⟨fun w q kk => h.run w q fun as e vs B1 H1 G1 q1 w1 r1 s1 u1 => g.run w1 q1 fun bs e2 us B2 H2 G2 q2 w2 r2 s2 u2 => by
  have hl : gK n k vs us = vs ++ us := by
    unfold gK
    rw [if_pos ⟨by rw [r1.len]; exact q2.1.1, by rw [r2.len]; exact q2.1.2⟩]
  show _
  rw [hl]
  exact kk _ e2 _ B2 H2 G2 q2.2 w2 ((RpX.mono s2.ex r1).cat r2) (s1.trans s2) (u1.trans u2)⟩
theorem do_callK {n k : Nat} {fs : FSp} {E : XK} {kws : List Keyword} {e0 : Expr} {es : List Expr} {t tk : TA} {d dk : dA} (h : PA X (e0 :: es) t → PK X kws tk → PE X a (tCallK (spD X.K fs) (gK n k) E t tk)) (ha : DA m X (e0 :: es) t d) (hk : DK m X kws tk dk) :
    DO m X a (tCallK (spD X.K fs) (gK n k) E t tk) (dCallP fs (dCatK n k d dk)) := ⟨h ha.pe hk.pe, by
  have := snd_callP (fs := fs) (E := E) (snd_catK (n := n) (k := k) ha.sd hk.sd)
  refine ⟨fun {B H σ env G QD Q} w q kk => ?_⟩
  have r := this.run w q kk
  show t σ H fun vs H1 => tk σ H1 fun zs H2 => spD X.K fs (gK n k vs zs) H2 Q E
  have r' : t σ H fun vs H1 => tk σ H1 fun zs H2 => spD X.K fs (gK n k vs zs ++ []) H2 Q E := r
  simpa only [List.append_nil] using r'⟩
theorem kb_of {fd : FuncData} {ps ks : List Str} {n k : Nat} (hps : ps.length = n + k) (h0 : 0 < n + k) (h : ∀ us ws : List Value, us.length = n → ws.length = k → bindArgs fd ⟨us, ks.zip ws⟩ = pure (ps.zip (us ++ ws))) : KBinds K fd ps ks (gK n k) (gK n k) where
  to := fun s us ws _ hl => by
    unfold gK at hl ⊢
    split at hl
    · rename_i hc
      rw [if_pos hc]
      exact .of_eq (h us ws hc.1 hc.2)
    · rw [hps] at hl
      simp at hl
      omega
  rel := fun {vs us zs ws} r s => by
    unfold gK
    rw [r.length, s.length]
    split
    · exact r.append s
    · exact .nil
theorem Fun.kbinds {x qual : Str} {st : Stmt} {f : Addr} {fd : FuncData} {ps ks : List Str} {n k : Nat} (F : L2.Fun K x qual st f fd) (hps : ps.length = n + k) (h0 : 0 < n + k)
    (h : ∀ (kV doc pm : Value) (an : Option Addr) (cdv ct : Value) (us ws : List Value), us.length = n → ws.length = k → bindArgs (PySem.W.fnOf x qual (defArgs st) (defBody st) (defScope st) .none kV doc pm an cdv ct) ⟨us, ks.zip ws⟩ = pure (ps.zip (us ++ ws))) : KBinds K fd ps ks (gK n k) (gK n k) := by
  obtain ⟨oc, od, kV, doc, pm, an, cdv, ct, osl, rfl, lk, hcd⟩ := F.ex
  exact kb_of hps h0 (h kV doc pm an cdv ct)
end
end DL
set_option Elab.async false
set_option linter.all false
set_option maxRecDepth 100000
namespace DL
open PySem PySem.Spec L2
variable [Rf]
/-- a def as a caller has it -/
structure Callee (Pg : Program) (w : World) (K : PySem.W.Frag) (mg : Str → Option Value) (base : Heap) (k : Nat) (x : Str) (f : Addr) (fd : FuncData) (ps : List Str) (fs : FSp) : Prop where
  ok : FnOk Pg w K mg base CX0 k f fd ps (spD K fs)
  g : mg x = some (.ref f)
  kp : PySem.W.keepIn K (.ref f) = true
  b : Binds K fd ps []
structure CalleeK (Pg : Program) (w : World) (K : PySem.W.Frag) (mg : Str → Option Value) (base : Heap) (k : Nat) (x : Str) (f : Addr) (fd : FuncData) (ps ks : List Str) (n j : Nat) (fs : FSp) : Prop where
  ok : FnOk Pg w K mg base CX0 k f fd ps (spD K fs)
  g : mg x = some (.ref f)
  kp : PySem.W.keepIn K (.ref f) = true
  kb : KBinds K fd ps ks (gK n j) (gK n j)

/-! ### a, b = a list or a tuple -/
def gOr (g1 g2 : TG) : TG := fun v σ H Q => g1 v σ H Q ∨ g2 v σ H Q
theorem pg_or {X : Cx} {tg : Expr} {g1 g2 : TG} (h1 : PG X tg g1) (h2 : PG X tg g2) : PG X tg (gOr g1 g2) := ⟨fun pins s σ H v u Q I r h => h.elim (h1.run pins s σ H v u Q I r) (h2.run pins s σ H v u Q I r)⟩
def dgSeq (n : Nat) (gs : dGs) : dG := fun p env Q => match p with
  | .tup ps => ps.length = n ∧ gs ps env Q
  | .lst ps => ps.length = n ∧ gs ps env Q
  | .rol ps => ps.length = n ∧ gs ps env Q
  | _ => False
section
variable {pn : List Nat} {K : PySem.W.Frag} {X : Cx} {a : Expr} {es : List Expr}
theorem snd_gseq {n : Nat} {gs : TGs} {dgs : dGs} (hs : SndGs pn K gs dgs) : SndG pn K (gOr (gTup K n gs) (gUnl K n gs)) (dgSeq n dgs) := ⟨fun {B H σ env G p v QD Q} w r q k => by
  cases p with
  | tup ps =>
    obtain ⟨a, vs, e1, e2, e3⟩ := r
    exact .inl ⟨a, vs, e1, w.ex.sqT e2, e3.length.trans q.1, hs.run w e3 q.2 k⟩
  | lst ps =>
    obtain ⟨a, vs, e1, e2, e3⟩ := r
    exact .inr ⟨a, vs, e1, SqL.of (w.ex a _ e2), e3.length.trans q.1, hs.run w e3 q.2 k⟩
  | rol ps =>
    obtain ⟨a, vs, e1, e2, e3⟩ := r
    exact .inr ⟨a, vs, e1, w.ex.sqL e2, e3.length.trans q.1, hs.run w e3 q.2 k⟩
  | _ => exact q.elim⟩
theorem dg_seq {n : Nat} {gs : TGs} {dgs : dGs} (h : PGs X es gs → PG X a (gTup X.K n gs)) (h2 : PGs X es gs → PG X a (gUnl X.K n gs)) (hs : DGs pn X es gs dgs) : DG pn X a (gOr (gTup X.K n gs) (gUnl X.K n gs)) (dgSeq n dgs) :=
  ⟨pg_or (h hs.pe) (h2 hs.pe), snd_gseq hs.sd⟩
end
/-! ### lists of ints -/
abbrev pI (ns : List Int) : List P := ns.map P.int
theorem toDs_map {α : Type} (f : α → P) (xs : List α) : P.toDs (xs.map f) = xs.map fun x => (f x).toD := by
  induction xs with
  | nil => rfl
  | cons x xs ih => show P.toD (f x) :: P.toDs (xs.map f) = _; rw [ih]; rfl
theorem canLayAll_map {α : Type} {f : α → P} {xs : List α} (h : ∀ x ∈ xs, (f x).toD.canLay0 = true) : PyData.canLayAll0 (P.toDs (xs.map f)) = true := by
  induction xs with
  | nil => rfl
  | cons x xs ih =>
    show (PyData.canLay0 (f x).toD && PyData.canLayAll0 (P.toDs (xs.map f))) = true
    rw [h x List.mem_cons_self, ih fun y hy => h y (List.mem_cons_of_mem _ hy)]
    rfl
theorem depthAll_map {α : Type} {f : α → P} {xs : List α} {n : Nat} (h : ∀ x ∈ xs, (f x).toD.depth ≤ n) : PyData.depthAll (P.toDs (xs.map f)) ≤ n := by
  induction xs with
  | nil => exact Nat.zero_le _
  | cons x xs ih =>
    show max (PyData.depth (f x).toD) (PyData.depthAll (P.toDs (xs.map f))) ≤ n
    exact Nat.max_le.mpr ⟨h x List.mem_cons_self, ih fun y hy => h y (List.mem_cons_of_mem _ hy)⟩
/-- data of a depth, as == takes it -/
structure Shp (p : P) (n : Nat) : Prop where
  c : p.toD.canLay0 = true
  d : p.toD.depth ≤ n
theorem Shp.ok {p : P} {n : Nat} (h : Shp p n) (hn : n ≤ 64 := by decide) : SeqAt.shaped p.toD = true := by
  unfold SeqAt.shaped
  rw [h.c, decide_eq_true (Nat.le_trans h.d hn)]
  rfl
theorem shp_int (i : Int) : Shp (.int i) 0 := ⟨rfl, Nat.le_refl _⟩
theorem shp_bl (i : Bool) : Shp (.bl i) 0 := ⟨rfl, Nat.le_refl _⟩
theorem shp_non : Shp .non 0 := ⟨rfl, Nat.le_refl _⟩
theorem Shp.lst {α : Type} {f : α → P} {xs : List α} {n : Nat} (h : ∀ x ∈ xs, Shp (f x) n) : Shp (.lst (xs.map f)) (n + 1) :=
  ⟨canLayAll_map fun x hx => (h x hx).c, Nat.succ_le_succ (depthAll_map fun x hx => (h x hx).d)⟩
theorem Shp.tup {α : Type} {f : α → P} {xs : List α} {n : Nat} (h : ∀ x ∈ xs, Shp (f x) n) : Shp (.tup (xs.map f)) (n + 1) :=
  ⟨canLayAll_map fun x hx => (h x hx).c, Nat.succ_le_succ (depthAll_map fun x hx => (h x hx).d)⟩
theorem shp_ints (ns : List Int) : Shp (.lst (pI ns)) 1 := .lst fun _ _ => shp_int _
theorem shp_tints (ns : List Int) : Shp (.tup (pI ns)) 1 := .tup fun _ _ => shp_int _
theorem Shp.refl {p : P} {n : Nat} (h : Shp p n) : PyData.eqv p.toD p.toD = true := SeqAt.eqv_refl _ h.c
theorem atI_map {α : Type} {f : α → P} {xs : List α} {j : Nat} (h : j < xs.length) : atI (xs.map f) (j : Int) = some (f xs[j]) := atI_nat (by rw [List.getElem?_map, List.getElem?_eq_getElem h]; rfl)
/-! ### bounds -/
theorem log_lt {i : Int} {n : Nat} (h0 : -(2 ^ n : Int) < i) (h1 : i < 2 ^ n) (hn : 0 < n) : i.natAbs.log2 < n := by
  by_cases h : i.natAbs = 0
  · rw [h]; simpa using hn
  · refine (Nat.log2_lt h).mpr ?_
    have : ((2 ^ n : Nat) : Int) = (2 : Int) ^ n := by push_cast; rfl
    omega
theorem cmul_of {i j : Int} (n m : Nat) (hi : -(2 ^ n : Int) < i ∧ i < 2 ^ n) (hj : -(2 ^ m : Int) < j ∧ j < 2 ^ m) (hn : 0 < n := by decide) (hm : 0 < m := by decide) (h : n + m ≤ 1000000 := by decide) : CMulW i j := by
  have h1 := log_lt hi.1 hi.2 hn
  have h2 := log_lt hj.1 hj.2 hm
  show i.natAbs.log2 + j.natAbs.log2 < 1000000
  omega
theorem cmul64 {i j : Int} (hi : -18446744073709551616 < i ∧ i < 18446744073709551616) (hj : -18446744073709551616 < j ∧ j < 18446744073709551616) : CMulW i j := cmul_of 64 64 hi hj
theorem cdiv_of {i j : Int} (h0 : 0 < j) (h1 : j < 18446744073709551616) : CDivW i j := ⟨h0, Nat.lt_trans (log_lt (n := 64) (by omega) h1 (by decide)) (by decide)⟩
end DL
set_option Elab.async false
set_option linter.all false
set_option maxRecDepth 100000
namespace DL
open PySem PySem.Spec L2
variable [Rf]
/-! ### a call one of whose arguments is new and the callee's to change -/
abbrev dAF := Env → (List P → D → List P → Env → Prop) → Prop
structure SndAF (K : PySem.W.Frag) (te : TA) (de : dAF) : Prop where
  run : ∀ {B H : Hp} {σ : L2.St} {env : Env} {G : Fp} {QD : List P → D → List P → Env → Prop} {Q : List V → Hp → Prop}, Wd K B H σ env G → de env QD →
    (∀ ps1 d ps2 env' vs1 v vs2 F B' H' G', QD ps1 d ps2 env' → Wd K B' H' σ env' G' → RpA K B' ps1 vs1 → RpA K B' ps2 vs2 → Own K H G B' H' G' d v F → Stp B H G B' H' G' → Q (vs1 ++ v :: vs2) H') → te σ H Q
structure DAF (X : Cx) (e : List Expr) (te : TA) (de : dAF) : Prop where
  pe : PA X e te
  sd : SndAF X.K te de
def dHere (dq : dO) (da : dA) : dAF := fun env Q => dq env fun d e => da e fun as e2 => match prs as with
  | some ps => Q [] d ps e2
  | none => False
def dThere (de : dE) (df : dAF) : dAF := fun env Q => de env fun p e => df e fun ps1 d ps2 e2 => Q (p :: ps1) d ps2 e2
def dCallF (fs : FSp) (df : dAF) : dO := fun env Q => df env fun ps1 d ps2 e => fs (ps1.map D.sh ++ d :: ps2.map D.sh) fun r _ => Q r e
section
variable {m : Bool} {K : PySem.W.Frag} {te : TE} {ta : TA} {de : dE} {dq : dO} {da : dA} {df : dAF} {X : Cx} {a b : Expr} {es : List Expr}
theorem snd_here (h : SndO false K te dq) (g : SndA true K ta da) : SndAF K (tCons te ta) (dHere dq da) := ⟨fun {B H σ env G QD Q} w q k => h.run w q fun d e v F B1 H1 G1 q1 w1 o1 s1 _ =>
  g.run w1 q1 fun as e2 vs B2 H2 G2 q2 w2 r2 s2 u2 => by
    obtain ⟨rfl, rfl, g2⟩ := u2 rfl
    change (match prs as with | some ps => QD [] d ps e2 | none => False) at q2
    cases hp : prs as with
    | none => rw [hp] at q2; exact q2.elim
    | some ps =>
      rw [hp] at q2
      have kp : ∀ x ∈ F, ∀ o, H1 x = some o → H2 x = some o := fun x _ o ho => g2.h x o ho
      refine k [] d ps e2 [] v vs F B2 H2 G2 q2 w2 rfl (RpX.all r2 hp) ⟨RpD.mono g2.b o1.rp fun x hx o ho => kp x hx o ho, o1.nd, fun x hx => ?_, o1.nw, o1.ap⟩ (s1.trans s2)
      obtain ⟨o, ho⟩ := RpD.there o1.rp x hx
      exact g2.n x o ho (o1.nb x hx)⟩
theorem snd_there (h : SndE m K te de) (g : SndAF K ta df) : SndAF K (tCons te ta) (dThere de df) := ⟨fun {B H σ env G QD Q} w q k => h.run w q fun p e v B1 H1 G1 q1 w1 r1 s1 _ =>
  g.run w1 q1 fun ps1 d ps2 e2 vs1 v2 vs2 F B2 H2 G2 q2 w2 r2 r3 o2 s2 => by
    refine k (p :: ps1) d ps2 e2 (v :: vs1) v2 vs2 F B2 H2 G2 q2 w2 ⟨v, vs1, rfl, Rp.mono s2.ex p r1, r2⟩ r3 ⟨o2.rp, o2.nd, o2.nb, fun x hx => ?_, o2.ap⟩ (s1.trans s2)
    rcases o2.nw x hx with ⟨j, hj⟩ | hn
    · exact s1.fp j x hj
    · exact .inr (s1.back hn)⟩
theorem da_here (h : DO false X a te dq) (g : DA true X es ta da) (hs : starEach (a :: es) X.env = (false, eval a X.env) :: starEach es X.env := by rfl) : DAF X (a :: es) (tCons te ta) (dHere dq da) := ⟨pa_cons h.pe g.pe hs, snd_here h.sd g.sd⟩
theorem da_there (h : DE m X a te de) (g : DAF X es ta df) (hs : starEach (a :: es) X.env = (false, eval a X.env) :: starEach es X.env := by rfl) : DAF X (a :: es) (tCons te ta) (dThere de df) := ⟨pa_cons h.pe g.pe hs, snd_there h.sd g.sd⟩
theorem Wd.more {B H : Hp} {σ : L2.St} {env : Env} {G : Fp} (w : Wd K B H σ env G) : Wd K B H (σ ++ [none]) (env ++ [none]) G := by
  have key : ∀ i d, (env ++ [none])[i]? = some (some d) ↔ env[i]? = some (some d) := fun i d => by
    by_cases h : i < env.length
    · rw [List.getElem?_append_left h]
    · rw [List.getElem?_append_right (by omega), List.getElem?_eq_none (l := env) (by omega)]
      constructor
      · intro e
        cases hh : i - env.length with
        | zero => rw [hh] at e; cases e
        | succ n => rw [hh] at e; cases e
      · intro e; cases e
  refine ⟨⟨w.ex, fun i d e => ?_, fun i h => w.no i fun d e => h d ((key i d).mpr e), w.nd, w.dj, w.nb, by rw [List.length_append, List.length_append, w.len]; rfl⟩, w.rf⟩
  have e' := (key i d).mp e
  obtain ⟨v, h1, h2⟩ := w.sl i d e'
  exact ⟨v, by rw [List.getElem?_append_left (by rw [← w.len]; exact env_lt e')]; exact h1, h2⟩
theorem Wd.less {B H : Hp} {σ : L2.St} {env : Env} {G : Fp} {x : Option V} {env2 : Env} (w : Wd K B H (σ ++ [x]) env2 G) (hl : env.length = σ.length) (h : ∀ i, i ≠ env.length → env2[i]? = env[i]?) : Wd K B H σ env (fun i => if i = env.length then [] else G i) where
  rf := w.rf
  ex := w.ex
  sl := fun i d e => by
    have hi := env_lt e
    obtain ⟨v, h1, h2⟩ := w.sl i d (by rw [h i (by omega)]; exact e)
    rw [List.getElem?_append_left (by omega)] at h1
    exact ⟨v, h1, by rw [if_neg (by omega)]; exact h2⟩
  no := fun i hn => by
    show (if i = env.length then [] else G i) = []
    split
    · rfl
    · rename_i hi
      refine w.no i fun d e => hn d ?_
      rw [h i hi] at e; exact e
  nd := fun i => by
    show (if i = env.length then [] else G i).Nodup
    split
    · exact List.nodup_nil
    · exact w.nd i
  dj := fun i j a h1 h2 => by
    change a ∈ (if i = env.length then [] else G i) at h1
    change a ∈ (if j = env.length then [] else G j) at h2
    split at h1 <;> split at h2
    · cases h1
    · cases h1
    · cases h2
    · exact w.dj i j a h1 h2
  nb := fun i a h1 => by
    change a ∈ (if i = env.length then [] else G i) at h1
    split at h1
    · cases h1
    · exact w.nb i a h1
  len := hl
theorem slots_pl : ∀ (ps : List P) (as : List AR), slots (ps.map Sum.inl ++ as) = slots as
  | [], _ => rfl
  | _ :: ps, as => slots_pl ps as
theorem RpX.pl {B : Hp} {σ : L2.St} {as : List AR} {us : List V} (h : RpX K B σ as us) : ∀ {ps : List P} {vs : List V}, RpA K B ps vs → RpX K B σ (ps.map Sum.inl ++ as) (vs ++ us)
  | [], vs, r => by rw [show vs = [] from r]; exact h
  | p :: ps, vs, ⟨v, r, e, h1, h2⟩ => by rw [e]; exact ⟨v, r ++ us, rfl, h1, RpX.pl h h2⟩
theorem argD_pl (env : Env) (ps : List P) : (ps.map Sum.inl).map (argD env) = ps.map D.sh := by
  rw [List.map_map]; rfl
theorem snd_callF {fs : FSp} {E : XK} (h : SndAF K ta df) : SndO false K (tCall (spD K fs) [] E ta) (dCallF fs df) := ⟨fun {B H σ env G QD Q} w q k => by
  refine h.run w q fun ps1 d ps2 e vs1 v vs2 F B1 H1 G1 q1 w1 r1 r2 o1 s1 => ?_
  show spD K fs (vs1 ++ v :: vs2 ++ []) H1 Q E
  rw [List.append_nil]
  have wm := (w1.more).put (i := e.length) (v := v) (d := d) (F := F) (by rw [List.length_append]; simp) o1.rp o1.nd o1.nb (fun a ha j _ => o1.ap a ha j)
  have eσ : (σ ++ [none]).set e.length (some v) = σ ++ [some v] := by rw [w1.len, List.set_append_right _ _ (Nat.le_refl _), Nat.sub_self]; rfl
  have ee : (e ++ [none]).set e.length (some d) = e ++ [some d] := by rw [List.set_append_right _ _ (Nat.le_refl _), Nat.sub_self]; rfl
  rw [eσ, ee] at wm
  let as : List AR := ps1.map Sum.inl ++ (Sum.inr e.length :: (ps2.map Sum.inl ++ []))
  have hsl : slots as = [e.length] := by
    show slots (ps1.map Sum.inl ++ (Sum.inr e.length :: (ps2.map Sum.inl ++ []))) = _
    rw [slots_pl]
    show e.length :: slots (ps2.map Sum.inl ++ []) = _
    rw [slots_pl]; rfl
  have hget : (e ++ [some d])[e.length]? = some (some d) := by rw [List.getElem?_append_right (Nat.le_refl _), Nat.sub_self]; rfl
  have ok : argsOk as (e ++ [some d]) = true := by
    unfold argsOk
    rw [hsl]
    show (decide ([e.length].Nodup) && (has (e ++ [some d]) e.length && true)) = true
    unfold has
    rw [hget, decide_eq_true (by simp)]
    rfl
  have hx : RpX K B1 (σ ++ [some v]) as (vs1 ++ v :: vs2) := by
    have h2' : RpX K B1 (σ ++ [some v]) (ps2.map Sum.inl ++ []) vs2 := by
      have := RpX.pl (K := K) (B := B1) (σ := σ ++ [some v]) (as := []) (us := []) rfl r2
      rw [List.append_nil vs2] at this
      exact this
    have h0 : RpX K B1 (σ ++ [some v]) (Sum.inr e.length :: (ps2.map Sum.inl ++ [])) (v :: vs2) := ⟨v, vs2, rfl, by rw [w1.len, List.getElem?_append_right (Nat.le_refl _), Nat.sub_self]; rfl, h2'⟩
    exact RpX.pl h0 r1
  have hD : as.map (argD (e ++ [some d])) = ps1.map D.sh ++ d :: ps2.map D.sh := by
    show (ps1.map Sum.inl ++ (Sum.inr e.length :: (ps2.map Sum.inl ++ []))).map (argD (e ++ [some d])) = _
    rw [List.map_append, List.map_cons, List.append_nil, argD_pl, argD_pl, argD_at hget]
  have wa := wm.args hx ok
  rw [hD] at wa
  refine ⟨B1, _, _, _, wa, q1, fun d2 ds v2 F2 B2 H2 G2 q2 w2 o2 s2 => ?_⟩
  obtain ⟨w3, s3, m3⟩ := wm.after hx ok w2 s2
  have w4 := w3.less (env := e) w1.len fun i hi => by
    rw [updS_out (by rw [hsl]; simpa using hi)]
    by_cases hlt : i < e.length
    · rw [List.getElem?_append_left hlt]
    · rw [List.getElem?_append_right (by omega), List.getElem?_eq_none (l := e) (by omega)]
      exact List.getElem?_eq_none (by show 1 ≤ _; omega)
  have m4 : ∀ i x, x ∈ (if i = e.length then [] else backG as (fun j => if j = e.length then F else G1 j) G2 i) → x ∈ G1 i := fun i x hx' => by
    split at hx'
    · cases hx'
    · rename_i hi
      unfold backG at hx'
      rcases find_slot (as := as) (i := i) with ⟨j, h1, h2⟩ | ⟨h1, h2⟩
      · have := mem_slots.mpr ⟨j, h2⟩
        rw [hsl] at this
        exact absurd (List.mem_singleton.mp this) hi
      · rw [h1] at hx'
        change x ∈ (if i = e.length then F else G1 i) at hx'
        rw [if_neg hi] at hx'
        exact hx'
  have nF : ∀ j x, x ∈ argG as (fun j => if j = e.length then F else G1 j) j → x ∈ F := fun j x hx' => by
    obtain ⟨i, h1, h2⟩ := argG_in hx'
    have := mem_slots.mpr ⟨j, h1⟩
    rw [hsl] at this
    have e2 := List.mem_singleton.mp this
    change x ∈ (if i = e.length then F else G1 i) at h2
    rw [if_pos e2] at h2
    exact h2
  have nwF : ∀ x ∈ F, (∃ j, x ∈ G j) ∨ H x = none := o1.nw
  have s4 : Stp B H G B2 H2 (fun i => if i = e.length then [] else backG as (fun j => if j = e.length then F else G1 j) G2 i) := by
    refine ⟨s1.ex.trans s2.ex, fun a o ho hn => ?_, fun i a ha => s1.fp i a (m4 i a ha), fun a o ho hb hn => ?_, fun a o ho => ?_⟩
    · refine s2.kp a o (s1.kp a o ho hn) fun j hj => ?_
      rcases nwF a (nF j a hj) with ⟨i, hi⟩ | hz
      · exact hn i hi
      · rw [ho] at hz; cases hz
    · refine s2.bs a o (s1.kp a o ho hn) (s1.bs a o ho hb hn) fun j hj => ?_
      rcases nwF a (nF j a hj) with ⟨i, hi⟩ | hz
      · exact hn i hi
      · rw [ho] at hz; cases hz
    · obtain ⟨o', h'⟩ := s1.th a o ho
      exact s2.th a o' h'
  refine k d2 e v2 F2 B2 H2 _ q2 w4 ⟨o2.rp, o2.nd, o2.nb, fun x hx' => ?_, fun x hx' i hi => ?_⟩ s4 .off
  · rcases o2.nw x hx' with ⟨j, hj⟩ | hn
    · exact o1.nw x (nF j x hj)
    · exact .inr (s1.back hn)
  · have hg := m4 i x hi
    rcases o2.nw x hx' with ⟨j, hj⟩ | hn
    · exact o1.ap x (nF j x hj) i hg
    · exact w1.off hn i hg⟩
theorem do_callF {fs : FSp} {E : XK} {e0 : Expr} (h : PA X (e0 :: es) ta → PE X a (tCall (spD X.K fs) [] E ta)) (ha : DAF X (e0 :: es) ta df) : DO false X a (tCall (spD X.K fs) [] E ta) (dCallF fs df) := ⟨h ha.pe, snd_callF ha.sd⟩
end
/-! ### two ways that meet again -/
def dMid (a b : dS) : dS := fun Dd env => ∃ M : Env → Prop, a { Dd with nx := M } env ∧ ∀ e, M e → b Dd e
theorem snd_mid {pn : List Nat} {K : PySem.W.Frag} {t u : TS} {dt1 du : dS} (h : SndS pn K t dt1) (g : SndS pn K u du) : SndS pn K (tSeq t u) (dMid dt1 du) := ⟨fun {B H σ env G Dd D} w q n r k1 k2 => by
  obtain ⟨M, q0, qm⟩ := q
  exact h.run (D := { D with nx := u D }) w q0 (fun env' σ' B' H' G' q1 w1 s1 p1 => g.run w1 (qm _ q1) (n.at s1 p1) (r.at s1 p1) (k1.at s1 p1) (k2.at s1 p1)) r k1 k2⟩
theorem dss_mid {pn : List Nat} {X : Cx} {st : Stmt} {rest : List Stmt} {t u : TS} {dt1 du : dS} (h : DS pn X st t dt1) (g : DSs pn X rest u du) : DSs pn X (st :: rest) (tSeq t u) (dMid dt1 du) := ⟨pss_cons h.pe g.pe, snd_mid h.sd g.sd⟩
end DL
set_option Elab.async false
set_option linter.all false
set_option maxRecDepth 100000
set_option maxHeartbeats 2000000
/-! own classes: instances as plain data, made by their __init__, read, called, compared -/
namespace DL
open PySem PySem.Spec L2
variable [Rf]
section
variable {K : PySem.W.Frag} {B H : Hp}
theorem RpF.look {f : Str} : ∀ {fs : List (Str × P)} {fv : List (Str × V)} {q : P}, RpF K B fs fv → fs.lookup f = some q → ∃ v, fv.lookup f = some v ∧ Rp K B q v
  | [], _, _, _, h => by cases h
  | (g, p) :: fs, _, q, ⟨v, r, e, h1, h2⟩, h => by
    subst e
    by_cases hg : (f == g) = true
    · rw [List.lookup, hg] at h
      cases h
      exact ⟨v, by rw [List.lookup, hg], h1⟩
    · have hg' : (f == g) = false := by simpa using hg
      rw [List.lookup, hg'] at h
      obtain ⟨u, h3, h4⟩ := RpF.look h2 h
      exact ⟨u, by rw [List.lookup, hg']; exact h3, h4⟩
theorem RpF.nolook {f : Str} : ∀ {fs : List (Str × P)} {fv : List (Str × V)}, RpF K B fs fv → fs.lookup f = none → fv.lookup f = none
  | [], _, e, _ => by rw [show _ = [] from e]; rfl
  | (g, p) :: fs, _, ⟨v, r, e, h1, h2⟩, h => by
    subst e
    by_cases hg : (f == g) = true
    · rw [List.lookup, hg] at h; cases h
    · have hg' : (f == g) = false := by simpa using hg
      rw [List.lookup, hg'] at h ⊢
      exact RpF.nolook h2 h
theorem RpF.len : ∀ {fs : List (Str × P)} {fv : List (Str × V)}, RpF K B fs fv → fv.length = fs.length
  | [], _, e => by rw [show _ = [] from e]; rfl
  | (g, p) :: fs, _, ⟨v, r, e, h1, h2⟩ => by rw [e, List.length_cons, List.length_cons, RpF.len h2]
def putFP (f : Str) (p : P) : List (Str × P) → List (Str × P)
  | [] => [(f, p)]
  | (g, x) :: r => if g = f then (g, p) :: r else (g, x) :: putFP f p r
theorem RpF.put {f : Str} {p : P} {v : V} (hp : Rp K B p v) : ∀ {fs : List (Str × P)} {fv : List (Str × V)}, RpF K B fs fv → RpF K B (putFP f p fs) (putF f v fv)
  | [], _, e => by rw [show _ = [] from e]; exact ⟨v, [], rfl, hp, rfl⟩
  | (g, x) :: fs, _, ⟨u, r, e, h1, h2⟩ => by
    subst e
    rw [putFP, putF]
    split
    · exact ⟨v, r, rfl, hp, h2⟩
    · exact ⟨u, _, rfl, h1, RpF.put hp h2⟩
end
/-- an attribute of the class at C's instances -/
structure ClsA (K : PySem.W.Frag) (C : Addr) (f : Str) : Prop where
  c : Cls K C
  n : NoAttr K C f
section
variable {pn : List Nat} {m : Bool} {K : PySem.W.Frag} {te tf : TE} {de df : dE} {ta : TA} {da : dA} {X : Cx} {a b c e o : Expr} {es : List Expr} {f mth x : Str} {pos apos p0 : Pos}

/-! ### e.f -/
def dFld (K : PySem.W.Frag) (f : Str) (de : dE) : dE := fun env Q => de env fun p e => match p with
  | .ins C fs => ClsA K C f ∧ ∃ q, fs.lookup f = some q ∧ Q q e
  | _ => False
theorem snd_fld (h : SndE m K te de) : SndE m K (tFld K te f) (dFld K f de) := ⟨fun {B H σ env G QD Q} w q k => h.run w q fun p e v B1 H1 G1 q1 w1 r1 s1 u1 => by
  cases p with
  | ins C fs =>
    obtain ⟨ca, q, hq, q1⟩ := q1
    obtain ⟨a, dx, fv, rfl, h1, h2⟩ := r1
    obtain ⟨v, hv, rv⟩ := h2.look hq
    exact ⟨a, C, dx, fv, v, rfl, w1.ex a _ h1, ca.c, ca.n, hv, k q e v B1 H1 G1 q1 w1 rv s1 u1⟩
  | _ => exact q1.elim⟩
theorem de_fld (h : DE m X e te de) (hb : attributeBase e f X.env (eval e X.env) = eval e X.env := by rfl) : DE m X (.Attribute e f pos) (tFld X.K te f) (dFld X.K f de) := ⟨pe_fld h.pe hb, snd_fld h.sd⟩
/-- i.f, i an own instance -/
def dFldO (K : PySem.W.Frag) (f : Str) (i : Nat) : dE := fun env Q => match env[i]? with
  | some (some (.oi C fs)) => ClsA K C f ∧ ∃ q, fs.lookup f = some q ∧ Q q env
  | _ => False
theorem snd_fldO {i : Nat} : SndE m K (tFld K (tVar i) f) (dFldO K f i) := ⟨fun {B H σ env G QD Q} w q k => by
  unfold dFldO at q
  split at q
  · rename_i C fs hd
    obtain ⟨ca, p, hp, q⟩ := q
    obtain ⟨v, h1, a, dx, fv, e1, rfl, e3, e4, e5⟩ := w.sl i _ hd
    obtain ⟨u, hu, ru⟩ := e5.look hp
    exact ⟨.ref a, h1, a, C, dx, fv, u, rfl, e3, ca.c, ca.n, hu, k p env u B H G q w ru .refl (.gr (.refl w.ex))⟩
  · exact q.elim⟩
theorem de_fldO (i : Nat) (h : PE X e (tVar i)) (hb : attributeBase e f X.env (eval e X.env) = eval e X.env := by rfl) : DE m X (.Attribute e f pos) (tFld X.K (tVar i) f) (dFldO X.K f i) := ⟨pe_fld h hb, snd_fldO⟩

/-! ### i.f = e, i an own instance -/
def dSetF (K : PySem.W.Frag) (i : Nat) (f : Str) (de : dE) : dS := fun Dd env => de env fun p e => match e[i]? with
  | some (some (.oi C fs)) => ClsA K C f ∧ fs.length < 1000 ∧ Dd.nx (e.set i (some (.oi C (putFP f p fs))))
  | _ => False
theorem snd_setF {i : Nat} (h : SndE m K te de) : SndS pn K (sFld K (tVar i) te f) (dSetF K i f de) := ⟨fun {B H σ env G Dd D} w q n r k1 k2 => h.run w q fun p e v B1 H1 G1 q1 w1 r1 s1 u1 => by
  change (match e[i]? with | some (some (.oi C fs)) => ClsA K C f ∧ fs.length < 1000 ∧ Dd.nx (e.set i (some (.oi C (putFP f p fs)))) | _ => False) at q1
  split at q1
  · rename_i C fs hd
    obtain ⟨ca, hl, q1⟩ := q1
    obtain ⟨v0, h1, a, dx, fv, e1, rfl, e3, e4, e5⟩ := w1.sl i _ hd
    refine ⟨.ref a, h1, a, C, dx, fv, rfl, e3, ca.c, ca.n, by rw [e5.len]; exact hl, ?_⟩
    have ndx : dx ≠ a := fun q => by rw [q, e3] at e4; cases e4
    obtain ⟨w2, s2⟩ := w1.chg (d' := .oi C (putFP f p fs)) (l := a) (o := .ins C dx (putF f v fv)) hd h1 (by rw [e1]; exact List.mem_cons_self) ⟨a, dx, _, e1, rfl, upd_same, by rw [upd_ne ndx]; exact e4, e5.put r1⟩
    exact n _ σ B1 _ G1 q1 w2 (s1.trans s2) .refl
  · exact q1.elim⟩
theorem ds_setF {i : Nat} {tpos : Pos} (ho : PE X o (tVar i)) (he : DE false X e te de) (hs : swapsWith e (some (.Attribute o f tpos)) pos.line X.env = pure false := by rfl) : DS pn X (.Assign [.Attribute o f tpos] e pos) (sFld X.K (tVar i) te f) (dSetF X.K i f de) := ⟨ps_fld ho he.pe hs, snd_setF he.sd⟩

/-! ### i.f = e, the first one of this attribute -/
theorem putF_new {f : Str} {v : V} : ∀ {fs : List (Str × V)}, fs.lookup f = none → putF f v fs = fs ++ [(f, v)]
  | [], _ => rfl
  | (g, x) :: r, h => by
    rw [List.lookup] at h
    split at h
    · cases h
    · rename_i hg
      have hne : ¬ g = f := fun e => by rw [e] at hg; simp at hg
      rw [putF, if_neg hne, putF_new h]; rfl
theorem RpF.append {p : P} {f : Str} {v : V} (hp : Rp K B p v) : ∀ {fs : List (Str × P)} {fv : List (Str × V)}, RpF K B fs fv → RpF K B (fs ++ [(f, p)]) (fv ++ [(f, v)])
  | [], _, e => by rw [show _ = [] from e]; exact ⟨v, [], rfl, hp, rfl⟩
  | (g, x) :: fs, _, ⟨u, r, e, h1, h2⟩ => by
    subst e
    exact ⟨u, r ++ [(f, v)], rfl, h1, RpF.append hp h2⟩
def dSetN (K : PySem.W.Frag) (i : Nat) (f : Str) (de : dE) : dS := fun Dd env => de env fun p e => match e[i]? with
  | some (some (.oi C fs)) => ClsA K C f ∧ fs.lookup f = none ∧ fs.length < 1000 ∧ Dd.nx (e.set i (some (.oi C (fs ++ [(f, p)]))))
  | _ => False
theorem snd_setN {i : Nat} (h : SndE m K te de) : SndS pn K (sFld K (tVar i) te f) (dSetN K i f de) := ⟨fun {B H σ env G Dd D} w q n r k1 k2 => h.run w q fun p e v B1 H1 G1 q1 w1 r1 s1 u1 => by
  change (match e[i]? with | some (some (.oi C fs)) => ClsA K C f ∧ fs.lookup f = none ∧ fs.length < 1000 ∧ Dd.nx (e.set i (some (.oi C (fs ++ [(f, p)])))) | _ => False) at q1
  split at q1
  · rename_i C fs hd
    obtain ⟨ca, hn, hl, q1⟩ := q1
    obtain ⟨v0, h1, a, dx, fv, e1, rfl, e3, e4, e5⟩ := w1.sl i _ hd
    refine ⟨.ref a, h1, a, C, dx, fv, rfl, e3, ca.c, ca.n, by rw [e5.len]; exact hl, ?_⟩
    have ndx : dx ≠ a := fun q => by rw [q, e3] at e4; cases e4
    rw [putF_new (e5.nolook hn)]
    obtain ⟨w2, s2⟩ := w1.chg (d' := .oi C (fs ++ [(f, p)])) (l := a) (o := .ins C dx (fv ++ [(f, v)])) hd h1 (by rw [e1]; exact List.mem_cons_self) ⟨a, dx, _, e1, rfl, upd_same, by rw [upd_ne ndx]; exact e4, e5.append r1⟩
    exact n _ σ B1 _ G1 q1 w2 (s1.trans s2) .refl
  · exact q1.elim⟩
theorem ds_setN {i : Nat} {tpos : Pos} (ho : PE X o (tVar i)) (he : DE false X e te de) (hs : swapsWith e (some (.Attribute o f tpos)) pos.line X.env = pure false := by rfl) : DS pn X (.Assign [.Attribute o f tpos] e pos) (sFld X.K (tVar i) te f) (dSetN X.K i f de) := ⟨ps_fld ho he.pe hs, snd_setN he.sd⟩

/-! ### a call with plain arguments changes nothing that was there -/
theorem plain_wd {H : Hp} {ps : List P} {vs : List V} (ex : Ex B H) (r : RpA K B ps vs) : Wd0 K B H (vs.map some) ((ps.map D.sh).map some) (fun _ => []) where
  ex := ex
  sl := fun i d e => by
    rw [List.getElem?_map, List.getElem?_map] at e
    cases hp : ps[i]? with
    | none => rw [hp] at e; cases e
    | some p =>
      rw [hp] at e
      cases e
      obtain ⟨v, h1, h2⟩ := r.get hp
      exact ⟨v, by rw [List.getElem?_map, h1]; rfl, rfl, h2⟩
  no := fun _ _ => rfl
  nd := fun _ => List.nodup_nil
  dj := fun _ _ _ h => absurd h List.not_mem_nil
  nb := fun _ _ h => absurd h List.not_mem_nil
  len := by rw [List.length_map, List.length_map, List.length_map, r.length]
theorem callP {fs : FSp} {ps : List P} {vs : List V} {H : Hp} {QD : D → List D → Prop} {Q : VK} {E : XK} (ex : Ex B H) (r : RpA K B ps vs) (h : fs (ps.map D.sh) QD)
    (k : ∀ d ds v F B' H', QD d ds → RpD K B' H' d v F → F.Nodup → (∀ a ∈ F, B' a = none) → (∀ a ∈ F, H a = none) → Gr B H B' H' → Q v H') : spD K fs vs H Q E := by
  refine ⟨B, _, _, _, plain_wd ex r, h, fun d ds v F B2 H2 G2 q2 w2 o2 s2 => ?_⟩
  have nm : ∀ (x : Addr) (i : Nat), x ∉ (fun _ => [] : Fp) i := fun _ _ => List.not_mem_nil
  refine k d ds v F B2 H2 q2 o2.rp o2.nd o2.nb (fun a ha => ?_) ⟨s2.ex, fun x o hx => s2.kp x o hx (nm x), w2.ex, fun x o hx hn => s2.bs x o hx hn (nm x)⟩
  rcases o2.nw a ha with ⟨j, hj⟩ | hn
  · cases hj
  · exact hn
/-- what a call of fs gives, plain -/
def pcall (fs : FSp) (ps : List P) (Q : P → Prop) : Prop := fs (ps.map D.sh) fun d _ => match d with
  | .sh z => Q z
  | _ => False
theorem callPP {fs : FSp} {ps : List P} {vs : List V} {H : Hp} {QD : P → Prop} {Q : VK} {E : XK} (ex : Ex B H) (r : RpA K B ps vs) (h : pcall fs ps QD)
    (k : ∀ z v B' H', QD z → Rp K B' z v → Gr B H B' H' → Q v H') : spD K fs vs H Q E :=
  callP ex r h fun d ds v F B' H' q rp _ _ _ g => by
    cases d with
    | sh z => exact k z v B' H' q rp.2 g
    | _ => exact q.elim
/-- f(..), plain in and out -/
def dCallQ (fs : FSp) (da : dA) : dE := fun env Q => da env fun as e => match prs as with
  | some ps => pcall fs ps fun z => Q z e
  | none => False
theorem snd_callQ {fs : FSp} {E : XK} (h : SndA m K ta da) : SndE m K (tCall (spD K fs) [] E ta) (dCallQ fs da) := ⟨fun {B H σ env G QD Q} w q k => h.run w q fun as e vs B1 H1 G1 q1 w1 r1 s1 u1 => by
  change (match prs as with | some ps => pcall fs ps fun z => QD z e | none => False) at q1
  split at q1
  · rename_i ps hp
    show spD K fs (vs ++ []) H1 Q E
    rw [List.append_nil]
    exact callPP w1.ex (r1.all hp) q1 fun z v B' H' qz rz g => k z e v B' H' G1 qz (w1.gr g) rz (s1.trans g.stp) (u1.trans (.gr g))
  · exact q1.elim⟩
theorem de_call {fs : FSp} {E : XK} {e0 : Expr} (h : PA X (e0 :: es) ta → PE X a (tCall (spD X.K fs) [] E ta)) (ha : DA m X (e0 :: es) ta da) : DE m X a (tCall (spD X.K fs) [] E ta) (dCallQ fs da) := ⟨h ha.pe, snd_callQ ha.sd⟩

/-! ### o.m(..) -/
def dMeth (C : Addr) (mth : Str) (fs : FSp) (de : dE) (da : dA) : dE := fun env Q => de env fun p e => match p with
  | .ins C' fl => C' = C ∧ fl.lookup mth = none ∧ da e fun as e2 => match prs as with
    | some ps => pcall fs (.ins C' fl :: ps) fun z => Q z e2
    | none => False
  | _ => False
theorem snd_meth {C : Addr} {fs : FSp} {E : XK} (h : SndE m K te de) (g : SndA m K ta da) : SndE m K (tMeth C mth (spD K fs) [] E te ta) (dMeth C mth fs de da) := ⟨fun {B H σ env G QD Q} w q k => h.run w q fun p e v B1 H1 G1 q1 w1 r1 s1 u1 => by
  cases p with
  | ins C' fl =>
    obtain ⟨rfl, hm, q1⟩ := q1
    obtain ⟨a, dx, fv, rfl, h1, h2⟩ := id r1
    refine ⟨a, dx, fv, rfl, w1.ex a _ h1, h2.nolook hm, g.run w1 q1 fun as e2 vs B2 H2 G2 q2 w2 r2 s2 u2 => ?_⟩
    change (match prs as with | some ps => pcall fs (.ins C' fl :: ps) fun z => QD z e2 | none => False) at q2
    split at q2
    · rename_i ps hp
      rw [List.append_nil]
      exact callPP (ps := .ins C' fl :: ps) w2.ex ⟨_, vs, rfl, Rp.mono s2.ex _ r1, r2.all hp⟩ q2 fun z v B' H' qz rz gg => k z e2 v B' H' G2 qz (w2.gr gg) rz ((s1.trans s2).trans gg.stp) ((u1.trans u2).trans (.gr gg))
    · exact q2.elim
  | _ => exact q1.elim⟩
/-- a method as a caller has it -/
structure CalleeM (Pg : Program) (w : World) (K : PySem.W.Frag) (mg : Str → Option Value) (base : Heap) (k : Nat) (C : Addr) (mth : Str) (f : Addr) (fd : FuncData) (ps : List Str) (fs : FSp) : Prop where
  ok : FnOk Pg w K mg base CX0 k f fd ps (spD K fs)
  c : Cls K C
  m : Meth K C mth f
  b : Binds K fd ps []
theorem de_meth {C : Addr} {fs : FSp} {E : XK} {e0 : Expr} (h : PE X o te → PA X (e0 :: es) ta → PE X a (tMeth C mth (spD X.K fs) [] E te ta)) (ho : DE m X o te de) (ha : DA m X (e0 :: es) ta da) : DE m X a (tMeth C mth (spD X.K fs) [] E te ta) (dMeth C mth fs de da) := ⟨h ho.pe ha.pe, snd_meth ho.sd ha.sd⟩
theorem de_meth0 {C : Addr} {fs : FSp} {E : XK} (h : PE X o te → PE X a (tMeth C mth (spD X.K fs) [] E te tNil)) (ho : DE m X o te de) : DE m X a (tMeth C mth (spD X.K fs) [] E te tNil) (dMeth C mth fs de dNil) := ⟨h ho.pe, snd_meth ho.sd snd_nil⟩

/-! ### f(..), f an instance -/
def dCallO (C : Addr) (fs : FSp) (de : dE) (da : dA) : dE := fun env Q => de env fun p e => match p with
  | .ins C' fl => C' = C ∧ da e fun as e2 => match prs as with
    | some ps => pcall fs (.ins C' fl :: ps) fun z => Q z e2
    | none => False
  | _ => False
theorem snd_callO {C : Addr} {fs : FSp} {E : XK} (hK : X.K = K) (h : SndE m K te de) (g : SndA m K ta da) : SndE m K (StX.tCallO X C (fun vs H Q E => spD K fs (vs ++ []) H Q E) E te ta) (dCallO C fs de da) := ⟨fun {B H σ env G QD Q} w q k => h.run w q fun p e v B1 H1 G1 q1 w1 r1 s1 u1 => by
  cases p with
  | ins C' fl =>
    obtain ⟨rfl, q1⟩ := q1
    obtain ⟨a, dx, fv, rfl, h1, h2⟩ := id r1
    refine ⟨a, rfl, g.run w1 q1 fun as e2 vs B2 H2 G2 q2 w2 r2 s2 u2 => ?_⟩
    change (match prs as with | some ps => pcall fs (.ins C' fl :: ps) fun z => QD z e2 | none => False) at q2
    split at q2
    · rename_i ps hp
      refine ⟨.inr ⟨dx, fv, w2.ex a _ (s2.ex a _ h1)⟩, ?_⟩
      show spD K fs ((V.ref a :: vs) ++ []) H2 Q E
      rw [List.append_nil]
      exact callPP (ps := .ins C' fl :: ps) w2.ex ⟨_, vs, rfl, Rp.mono s2.ex _ r1, r2.all hp⟩ q2 fun z v B' H' qz rz gg => k z e2 v B' H' G2 qz (w2.gr gg) rz ((s1.trans s2).trans gg.stp) ((u1.trans u2).trans (.gr gg))
    · exact q2.elim
  | _ => exact q1.elim⟩
theorem de_callO {C : Addr} {fs : FSp} {E : XK} {e0 fe : Expr} (h : PE X fe te → PA X (e0 :: es) ta → PE X a (StX.tCallO X C (fun vs H Q E => spD X.K fs (vs ++ []) H Q E) E te ta)) (ho : DE m X fe te de) (ha : DA m X (e0 :: es) ta da) :
    DE m X a (StX.tCallO X C (fun vs H Q E => spD X.K fs (vs ++ []) H Q E) E te ta) (dCallO C fs de da) := ⟨h ho.pe ha.pe, snd_callO rfl ho.sd ha.sd⟩

/-! ### C(..) -/
def dMake (C : Addr) (fs : FSp) (da : dA) : dE := fun env Q => da env fun as e => match prs as with
  | some ps => fs (.oi C [] :: ps.map D.sh) fun d ds => match d, ds with
    | .sh .non, .oi C' fl :: _ => Q (.ins C' fl) e
    | _, _ => False
  | none => False
theorem make_wd {H : Hp} {ps : List P} {vs : List V} {C x dx : Addr} (ex : Ex B H) (hx : H x = none) (hd : H dx = none) (ne : dx ≠ x) (r : RpA K B ps vs) :
    Wd0 K B (upd (upd H dx (.own x)) x (.ins C dx [])) ((V.ref x :: vs).map some) ((D.oi C [] :: ps.map D.sh).map some) (fun i => if i = 0 then [x, dx] else []) where
  ex := fun a o h => by rw [upd_ne (ne_of_none (ex a o h) hx), upd_ne (ne_of_none (ex a o h) hd)]; exact ex a o h
  sl := fun i d e => by
    cases i with
    | zero =>
      cases e
      exact ⟨.ref x, rfl, x, dx, [], rfl, rfl, upd_same, by rw [upd_ne ne, upd_same], rfl⟩
    | succ i =>
      rw [List.map_cons, List.getElem?_cons_succ, List.getElem?_map, List.getElem?_map] at e
      cases hp : ps[i]? with
      | none => rw [hp] at e; cases e
      | some p =>
        rw [hp] at e
        cases e
        obtain ⟨v, h1, h2⟩ := r.get hp
        exact ⟨v, by rw [List.map_cons, List.getElem?_cons_succ, List.getElem?_map, h1]; rfl, by rw [if_neg (Nat.succ_ne_zero i)], h2⟩
  no := fun i h => by
    cases i with
    | zero => exact absurd rfl (h _)
    | succ i => rfl
  nd := fun i => by
    split
    · exact List.nodup_cons.mpr ⟨fun h => ne (List.mem_singleton.mp h).symm, List.nodup_cons.mpr ⟨List.not_mem_nil, List.nodup_nil⟩⟩
    · exact List.nodup_nil
  dj := fun i j a h1 h2 => by
    split at h1
    · split at h2
      · rename_i e1 e2; rw [e1, e2]
      · cases h2
    · cases h1
  nb := fun i a h => by
    split at h
    · rcases List.mem_cons.mp h with h | h
      · rw [h]; exact ex.back hx
      · rw [List.mem_singleton.mp h]; exact ex.back hd
    · cases h
  len := by rw [List.length_map, List.length_map, List.length_cons, List.length_cons, List.length_map, r.length]
theorem snd_make {C : Addr} {fs : FSp} {E : XK} (h : SndA m K ta da) : SndE m K (tMake C (spD K fs) [] E ta) (dMake C fs da) := ⟨fun {B H σ env G QD Q} w q k => h.run w q fun as e vs B1 H1 G1 q1 w1 r1 s1 u1 => by
  change (match prs as with | some ps => fs (.oi C [] :: ps.map D.sh) (fun d ds => match d, ds with | .sh .non, .oi C' fl :: _ => QD (.ins C' fl) e | _, _ => False) | none => False) at q1
  split at q1
  · rename_i ps hp
    intro x dx hx hd ne
    rw [List.append_nil]
    refine ⟨B1, _, _, _, make_wd w1.ex hx hd ne (r1.all hp), q1, fun d ds v F B2 H2 G2 q2 w2 o2 s2 => ?_⟩
    split at q2
    · rename_i C' fl rest
      refine ⟨o2.rp.2, ?_⟩
      obtain ⟨v0, h0, a, dx', fv, e1, e2, e3, e4, e5⟩ := w2.sl 0 _ rfl
      have ev : V.ref x = v0 := Option.some.inj (Option.some.inj h0)
      rw [← ev] at e2
      cases e2
      -- plain from here on
      have nb : ∀ a ∈ G2 0, B2 a = none := fun a ha => w2.nb 0 a ha
      have fr := frz_gr w2.ex nb
      have hne : ∀ {a : Addr} {o : HO}, H1 a = some o → a ≠ x ∧ a ≠ dx := fun ha => ⟨ne_of_none ha hx, ne_of_none ha hd⟩
      have up : ∀ {a : Addr} {o : HO}, H1 a = some o → upd (upd H1 dx (.own x)) x (.ins C dx []) a = some o := fun ha => by rw [upd_ne (hne ha).1, upd_ne (hne ha).2]; exact ha
      have nG : ∀ {a : Addr} {o : HO}, H1 a = some o → ∀ i, a ∉ (fun i => if i = 0 then [x, dx] else [] : Fp) i := fun {a o} ha i hi => by
        change a ∈ (if i = 0 then [x, dx] else []) at hi
        split at hi
        · rcases List.mem_cons.mp hi with hi | hi
          · exact (hne ha).1 hi
          · exact (hne ha).2 (List.mem_singleton.mp hi)
        · cases hi
      have nF : ∀ {a : Addr} {o : HO}, H1 a = some o → a ∉ G2 0 := fun {a o} ha hi => by
        rcases s2.fp 0 a hi with ⟨j, hj⟩ | hn
        · exact nG ha j hj
        · rw [up ha] at hn; cases hn
      have g : Gr B1 H1 (frzB B2 H2 (G2 0)) H2 := ⟨s2.ex.trans fr.1, fun a o ha => s2.kp a o (up ha) (nG ha), fr.2, fun a o ha hn => by
        unfold frzB
        rw [if_neg (nF ha)]
        exact s2.bs a o (up ha) hn (nG ha)⟩
      refine k _ e _ _ H2 G1 q2 (w1.gr g) ?_ (s1.trans g.stp) (u1.trans (.gr g))
      refine ⟨x, dx', fv, rfl, ?_, RpF.mono fr.1 fl e5⟩
      unfold frzB
      rw [if_pos (by rw [e1]; exact List.mem_cons_self)]
      exact e3
    · exact q2.elim
  · exact q1.elim⟩
/-- a class as a caller has it -/
structure CalleeC (Pg : Program) (w : World) (K : PySem.W.Frag) (mg : Str → Option Value) (base : Heap) (k : Nat) (x : Str) (C f : Addr) (fd : FuncData) (ps : List Str) (fs : FSp) : Prop where
  ok : FnOk Pg w K mg base CX0 k f fd ps (spD K fs)
  m : Mk K C f
  g : mg x = some (.ref C)
  b : Binds K fd ps []
theorem de_make {C : Addr} {fs : FSp} {E : XK} {e0 : Expr} (h : PA X (e0 :: es) ta → PE X a (tMake C (spD X.K fs) [] E ta)) (ha : DA m X (e0 :: es) ta da) : DE m X a (tMake C (spD X.K fs) [] E ta) (dMake C fs da) := ⟨h ha.pe, snd_make ha.sd⟩

/-! ### isinstance of an own class -/
theorem kit_self (K : PySem.W.Frag) (c : Addr) : PySem.W.kitOne K (.ref c) (.ref c) = some true := by
  unfold PySem.W.kitOne
  rw [if_pos (beq_self_eq_true _)]
def dIsiO (K : PySem.W.Frag) : List P → (P → Prop) → Prop
  | [.ins C _, .ob C'], Q => C' = C ∧ C8.InsC K C ∧ Q (.bl true)
  | _, _ => False
theorem cs_isiO : CbS K (fun xs H Q => ∃ C a dx fs, xs = [.ref a, .ref C] ∧ H a = some (.ins C dx fs) ∧ C8.InsC K C ∧ Q (.bl true) H) (dIsiO K) := ⟨fun {B H xs ps QD Q} e r q k => by
  unfold dIsiO at q
  split at q
  · rename_i C fs C'
    obtain ⟨rfl, hi, q⟩ := q
    obtain ⟨v, u, rfl, r1, r2⟩ := two_rp r
    obtain ⟨a, dx, fv, rfl, h1, h2⟩ := r1
    rw [show u = V.ref C' from r2]
    exact ⟨C', a, dx, fv, rfl, e a _ h1, hi, k _ B H _ q rfl (.refl e)⟩
  · exact q.elim⟩
theorem call_isO : CallR X (.builtin "isinstance") (fun xs H Q => ∃ C a dx fs, xs = [.ref a, .ref C] ∧ H a = some (.ins C dx fs) ∧ C8.InsC X.K C ∧ Q (.bl true) H) := by
  intro pins s σ H xs us Q I r h
  obtain ⟨C, a, dx, fs, rfl, ha, c, q⟩ := h
  exact C8.call_isC c pins s σ H _ us Q I r ⟨a, dx, fs, rfl, ha, q⟩

/-! ### operators of an own class -/
/-- x op y: two instances of the class at C -/
def rOwnB (K : PySem.W.Frag) (C : Addr) (sp : Sp) (E : XK) : R2 := fun x y H Q => ∃ a dx vs b dy ws, x = .ref a ∧ y = .ref b ∧ H a = some (.ins C dx vs) ∧ H b = some (.ins C dy ws) ∧ sp [x, y] H Q E
def dOwnB (C : Addr) (fs : FSp) : P → P → (P → Prop) → Prop := fun p q Q => match p, q with
  | .ins C1 f1, .ins C2 f2 => C1 = C ∧ C2 = C ∧ pcall fs [.ins C1 f1, .ins C2 f2] Q
  | _, _ => False
theorem os_ownB {C : Addr} {fs : FSp} {E : XK} : OpS K (rOwnB K C (fun vs H Q E => spD K fs (vs ++ []) H Q E) E) (dOwnB C fs) := ⟨fun {B H x y p q QD Q} ex rx ry r k => by
  unfold dOwnB at r
  split at r
  · rename_i C1 f1 C2 f2
    obtain ⟨rfl, rfl, r⟩ := r
    obtain ⟨a, dx, fv, rfl, h1, h2⟩ := id rx
    obtain ⟨b, dy, gv, rfl, g1, g2⟩ := id ry
    exact ⟨a, dx, fv, b, dy, gv, rfl, rfl, ex a _ h1, ex b _ g1, callPP (ps := [_, _]) ex ⟨_, _, rfl, rx, _, _, rfl, ry, rfl⟩ r fun z v B' H' qz rz g => k v B' H' z qz rz g⟩
  · exact r.elim⟩
/-- the operators' facts of a class -/
structure OwnF (K : PySem.W.Frag) (C g : Addr) (nm : Str) : Prop where
  at_ : PySem.W.findIn K (.ref C) nm = some (some (.ref g))
  fn : PySem.W.isFn K (.ref g) = true
section
variable {CX : CXT} {C g : Addr} {k : Nat} {sp : Sp} {E : XK}
theorem op_ownB {op : Operator} (F : OwnF X.K C g (PySem.dunder op.info.2)) (hc : PySem.W.selfFirst X.K C = true) (f : FnR X.prog X.w X.K X.mg X.base CX k g sp) (hr : Room k X.A) (hx : Passes CX X E) : OpR X (binaryOp op) (rOwnB X.K C sp E) := by
  intro pins s σ H x y v u Q I rx ry h
  obtain ⟨a, dx, vs, b, dy, ws, rfl, rfl, ha, hb, q⟩ := h
  cases (show v = Value.ref a from rx)
  cases (show u = Value.ref b from ry)
  obtain ⟨mA, O, _⟩ := ins_get I.hok ha
  obtain ⟨od, J, _⟩ := O.look
  obtain ⟨mB, O', _⟩ := ins_get I.hok hb
  obtain ⟨od', J', _⟩ := O'.look
  obtain ⟨m, hF⟩ := I.fr
  refine PySem.W.binop_K (op := op) hF I.ok.mod.kin J J'.type hc F.at_ F.fn ?_
  refine wpAny_mono (wpAny_call (run_fnR (us := [.ref a, .ref b]) (vs := [.ref a, .ref b]) f hr hx I (.cons rfl (.cons rfl .nil)) q)) (fun w s' z => ?_) fun _ _ x => x
  obtain ⟨z', H', I', rz, qz⟩ := z
  exact SlX.cmpback rz ⟨z', H', I', rz, qz⟩
theorem op_ownE {op : CmpOp} (hop : ∀ a b, compareOp op a b = richCompare op a b) (F : OwnF X.K C g (cmpInfo op).2.1) (f : FnR X.prog X.w X.K X.mg X.base CX k g sp) (hn : PySem.W.notFirst X.K C (.ref C) = true)
    (hr : Room k X.A) (hx : Passes CX X E) : OpR X (compareOp op) (rOwnB X.K C sp E) := by
  intro pins s σ H x y v u Q I rx ry h
  obtain ⟨a, dx, vs, b, dy, ws, rfl, rfl, ha, hb, q⟩ := h
  cases (show v = Value.ref a from rx)
  cases (show u = Value.ref b from ry)
  obtain ⟨mA, O, _⟩ := ins_get I.hok ha
  obtain ⟨od, J, _⟩ := O.look
  obtain ⟨mB, O', _⟩ := ins_get I.hok hb
  obtain ⟨od', J', _⟩ := O'.look
  obtain ⟨m, hF⟩ := I.fr
  rw [hop]
  refine PySem.W.cmp_K (op := op) (tb := .ref C) hr.units0 hF I.ok.mod.kin J J'.type hn F.at_ F.fn ?_
  refine wpAny_mono (wpAny_call (run_fnR (us := [.ref a, .ref b]) (vs := [.ref a, .ref b]) f hr hx I (.cons rfl (.cons rfl .nil)) q)) (fun w s' z => ?_) fun _ _ x => x
  obtain ⟨z', H', I', rz, qz⟩ := z
  exact SlX.cmpback rz ⟨z', H', I', rz, qz⟩
end
/-! ### list + list, min, max -/
def dCat2 : P → P → (D → Prop) → Prop := fun p q Q => match p, q with
  | .lst xs, .lst ys => xs.length + ys.length ≤ sizeLine ∧ Q (.ol (xs ++ ys))
  | _, _ => False
theorem oo_cat : OpO K rCat dCat2 := ⟨fun {B H x y p q QD Q} e rx ry r k => by
  unfold dCat2 at r
  split at r
  · rename_i xs ys
    obtain ⟨a, vs, rfl, h1, h2⟩ := rx
    obtain ⟨b, us, rfl, g1, g2⟩ := ry
    refine ⟨a, b, vs, us, rfl, rfl, e a _ h1, e b _ g1, by rw [h2.length, g2.length]; exact r.1, fun p hp => ?_⟩
    have g : Gr B H B (upd H p (.lst (vs ++ us))) := ⟨Ex.refl _, fun a u k => by rw [upd_ne (ne_of_none k hp)]; exact k, fun a u k => by rw [upd_ne (ne_of_none (e a u k) hp)]; exact e a u k, fun a u k n => n⟩
    exact k (.ref p) B _ (.ol (xs ++ ys)) [p] r.2 ⟨p, _, rfl, rfl, upd_same, h2.append g2⟩ (by simp) (fun a ha => by rw [List.mem_singleton.mp ha]; exact e.back hp) (fun a ha => by rw [List.mem_singleton.mp ha]; exact hp) g
  · exact r.elim⟩
def dMin2 : List P → (P → Prop) → Prop
  | [.int i, .int j], Q => Q (.int (if j < i then j else i))
  | _, _ => False
theorem cs_min2 : CbS K (fun xs H Q => ∃ i j, xs = [.int i, .int j] ∧ Q (.int (if j < i then j else i)) H) dMin2 := ⟨fun {B H xs ps QD Q} e r q k => by
  unfold dMin2 at q
  split at q
  · obtain ⟨v, u, rfl, rfl, rfl⟩ := two_rp r
    exact ⟨_, _, rfl, k _ B H _ q rfl (.refl e)⟩
  · exact q.elim⟩
def dMax2 : List P → (P → Prop) → Prop
  | [.int i, .int j], Q => Q (.int (if j > i then j else i))
  | _, _ => False
theorem cs_max2 : CbS K (fun xs H Q => ∃ i j, xs = [.int i, .int j] ∧ Q (.int (if j > i then j else i)) H) dMax2 := ⟨fun {B H xs ps QD Q} e r q k => by
  unfold dMax2 at q
  split at q
  · obtain ⟨v, u, rfl, rfl, rfl⟩ := two_rp r
    exact ⟨_, _, rfl, k _ B H _ q rfl (.refl e)⟩
  · exact q.elim⟩
structure CalleeO (Pg : Program) (w : World) (K : PySem.W.Frag) (mg : Str → Option Value) (base : Heap) (k : Nat) (C : Addr) (f : Addr) (fd : FuncData) (ps : List Str) (fs : FSp) : Prop where
  ok : FnOk Pg w K mg base CX0 k f fd ps (spD K fs)
  c : StX.CallO K C f
  b : Binds K fd ps []
structure CalleeP (Pg : Program) (w : World) (K : PySem.W.Frag) (mg : Str → Option Value) (base : Heap) (k : Nat) (C : Addr) (nm : Str) (f : Addr) (fd : FuncData) (ps : List Str) (fs : FSp) : Prop where
  ok : FnOk Pg w K mg base CX0 k f fd ps (spD K fs)
  o : OwnF K C f nm
  b : Binds K fd ps []
/-! ### a, b = x, y -/
def dPar (i j : Nat) (da : dA) : dS := fun Dd env => da env fun as e => match prs as with
  | some [p, q] => inE i e = true ∧ inE j e = true ∧ Dd.nx ((e.set i (some (.sh p))).set j (some (.sh q)))
  | _ => False
theorem snd_par {i j : Nat} (hi : i ∉ pn) (hj : j ∉ pn) (h : SndA m K ta da) : SndS pn K (tPar i j ta) (dPar i j da) := ⟨fun {B H σ env G Dd D} w q n r k1 k2 => h.run w q fun as e vs B1 H1 G1 q1 w1 r1 s1 u1 => by
  change (match prs as with | some [p, q] => inE i e = true ∧ inE j e = true ∧ Dd.nx ((e.set i (some (.sh p))).set j (some (.sh q))) | _ => False) at q1
  split at q1
  · rename_i p q' hp
    obtain ⟨h1, h2, q1⟩ := q1
    obtain ⟨v, u, rfl, rv, ru⟩ := two_rp (r1.all hp)
    refine ⟨v, u, rfl, ?_⟩
    have w2 := w1.putS (inE_lt h1) rv
    have w3 := w2.putS (i := j) (by rw [List.length_set]; exact inE_lt h2) ru
    have s2 := (s1.trans (stp_put (i := i) (F := []) (fun _ h => absurd h List.not_mem_nil))).trans (stp_put (i := j) (F := []) (fun _ h => absurd h List.not_mem_nil))
    exact n _ _ B1 H1 _ q1 w3 s2 (Pin.trans (Pin.set hi) (Pin.set hj))
  · exact q1.elim⟩
theorem ds_par {i j : Nat} {st : Stmt} {e0 e1 : Expr} (h : PA X [e0, e1] ta → PS X st (tPar i j ta)) (ha : DA false X [e0, e1] ta da) (hi : i ∉ pn := by decide) (hj : j ∉ pn := by decide) : DS pn X st (tPar i j ta) (dPar i j da) := ⟨h ha.pe, snd_par hi hj ha.sd⟩
/-- what is never reached -/
theorem ds_never {st : Stmt} : DS pn X st (fun _ _ _ => False) (fun _ _ => False) := ⟨⟨fun pins s σ H D I h => h.elim⟩, ⟨fun w q n r k1 k2 => q.elim⟩⟩
theorem de_never : DE m X e (fun _ _ _ => False) (fun _ _ => False) := ⟨⟨fun pins s σ H Q I h => h.elim⟩, ⟨fun w q k => q.elim⟩⟩
theorem dt_never : DT m X e (fun _ _ _ => False) (fun _ _ => False) := ⟨⟨fun pins s σ H Q I h => h.elim⟩, ⟨fun w q k => q.elim⟩⟩
end
end DL
set_option Elab.async false
set_option linter.all false
set_option maxRecDepth 100000
set_option maxHeartbeats 2000000
/-! lcm, all, max of a list, n & 1, b is True, an own instance and an int, enumerate of any sequence -/
namespace DL
open PySem PySem.Spec L2
variable [Rf]
section
variable {K : PySem.W.Frag} {X : Cx}
/-! ### math.lcm -/
def rLcm : List V → Hp → VK → Prop := fun vs H Q => ∃ a b : Nat, vs = [.int a, .int b] ∧ (a < 1073741824 ∧ b < 1073741824) ∧ Q (.int ((a.lcm b : Nat) : Int)) H
theorem lcm_small {a b : Nat} (ha : a < 1073741824) (hb : b < 1073741824) : a.lcm b < 2 ^ 64 := by
  have h1 : a.lcm b ≤ a * b := PySem.W.mc_lcm_le a b
  have h2 : a * b ≤ 1073741824 * 1073741824 := Nat.mul_le_mul (Nat.le_of_lt ha) (Nat.le_of_lt hb)
  have h3 : 1073741824 * 1073741824 < 2 ^ 64 := by decide
  omega
theorem cr_lcm : CallR X (.builtin "math.lcm") rLcm := by
  intro pins s σ H vs us Q I r h
  obtain ⟨a, b, rfl, ⟨ha, hb⟩, q⟩ := h
  obtain ⟨t, u, rfl⟩ := Vals.int2 r
  have e : (((Nat.lcm 1 (a : Int).natAbs).lcm (b : Int).natAbs : Nat) : Int) = ((a.lcm b : Nat) : Int) := by
    rw [PySem.W.mc_lcm_one, Int.natAbs_natCast, Int.natAbs_natCast]
  refine PySem.W.mg_lcm_v (c := ((a.lcm b : Nat) : Int)) (by rw [Int.natAbs_natCast]; exact Nat.lt_trans ha (by decide)) (by rw [Int.natAbs_natCast]; exact Nat.lt_trans hb (by decide)) e ?_ ⟨.int _, H, I.tok _, ⟨_, rfl⟩, q⟩
  rw [Int.natAbs_natCast]
  have h := lcm_small ha hb
  by_cases h0 : a.lcm b = 0
  · rw [h0]; decide +kernel
  · exact Nat.lt_trans ((Nat.log2_lt h0).mpr h) (by decide +kernel)
def dLcm : List P → (P → Prop) → Prop
  | [.int a, .int b], Q => (0 ≤ a ∧ a < 1073741824) ∧ (0 ≤ b ∧ b < 1073741824) ∧ Q (.int ((a.toNat.lcm b.toNat : Nat) : Int))
  | _, _ => False
theorem cs_lcm : CbS K rLcm dLcm := ⟨fun {B H xs ps QD Q} e r q k => by
  unfold dLcm at q
  split at q
  · rename_i a b
    obtain ⟨⟨a0, a1⟩, ⟨b0, b1⟩, q⟩ := q
    obtain ⟨v, u, rfl, rfl, rfl⟩ := two_rp r
    obtain ⟨a, rfl⟩ := Int.eq_ofNat_of_zero_le a0
    obtain ⟨b, rfl⟩ := Int.eq_ofNat_of_zero_le b0
    exact ⟨a, b, rfl, ⟨by omega, by omega⟩, k _ B H _ q rfl (.refl e)⟩
  · exact q.elim⟩
/-! ### all(..) -/
def boolsP : List P → Option (List Bool)
  | [] => some []
  | .bl b :: ps => (boolsP ps).map (b :: ·)
  | _ :: _ => none
theorem bools_rp {B : Hp} : ∀ {ps : List P} {vs : List V} {ns : List Bool}, RpA K B ps vs → boolsP ps = some ns → vs = ns.map V.bl
  | [], _, _, h, e => by cases e; exact h
  | .bl i :: ps, _, ns, ⟨v, r, e1, e2, e3⟩, e => by
    unfold boolsP at e
    cases h : boolsP ps with
    | none => rw [h] at e; cases e
    | some ms =>
      rw [h] at e
      cases Option.some.inj e
      rw [e1, bools_rp e3 h, show v = V.bl i from e2]
      rfl
  | .non :: _, _, _, _, e => by cases e
  | .int _ :: _, _, _, _, e => by cases e
  | .str _ :: _, _, _, _, e => by cases e
  | .ob _ :: _, _, _, _, e => by cases e
  | .ty _ :: _, _, _, _, e => by cases e
  | .lst _ :: _, _, _, _, e => by cases e
  | .rol _ :: _, _, _, _, e => by cases e
  | .tup _ :: _, _, _, _, e => by cases e
  | .ins _ _ :: _, _, _, _, e => by cases e
theorem bools_map (ns : List Bool) : boolsP (ns.map P.bl) = some ns := by
  induction ns with
  | nil => rfl
  | cons n ns ih => show (boolsP (ns.map P.bl)).map (n :: ·) = _; rw [ih]; rfl
def dAll (ps : List P) (Q : P → Prop) : Prop := match ps with
  | [p] => (match plst p with
    | some xs => (match boolsP xs with
      | some ns => Q (.bl (ns.all id))
      | none => False)
    | none => False)
  | _ => False
theorem cs_all : CbS K (rAll K) dAll := ⟨fun {B H xs ps QD Q} e r q k => by
  unfold dAll at q
  split at q
  · rename_i p
    split at q
    · rename_i ys hp
      split at q
      · rename_i ns hn
        obtain ⟨v, rfl, rv⟩ := one_rp r
        obtain ⟨a, vs, rfl, h1, h2⟩ := plst_rp rv hp
        rw [bools_rp h2 hn] at h1
        exact ⟨a, ns, rfl, e.sqL h1, k _ B H _ q rfl (.refl e)⟩
      · exact q.elim
    · exact q.elim
  · exact q.elim⟩
/-! ### max(list) -/
def dMaxL (ps : List P) (Q : P → Prop) : Prop := match ps with
  | [p] => (match plst p with
    | some xs => (match intsP xs with
      | some ns => 0 < ns.length ∧ ∀ m, m ∈ ns → (∀ y, y ∈ ns → y ≤ m) → Q (.int m)
      | none => False)
    | none => False)
  | _ => False
theorem cs_maxL : CbS K (rMax K) dMaxL := ⟨fun {B H xs ps QD Q} e r q k => by
  unfold dMaxL at q
  split at q
  · rename_i p
    split at q
    · rename_i ys hp
      split at q
      · rename_i ns hn
        obtain ⟨v, rfl, rv⟩ := one_rp r
        obtain ⟨a, vs, rfl, h1, h2⟩ := plst_rp rv hp
        rw [ints_rp h2 hn] at h1
        exact ⟨a, ns, rfl, e.sqL h1, q.1, fun m h3 h4 => k _ B H _ (q.2 m h3 h4) rfl (.refl e)⟩
      · exact q.elim
    · exact q.elim
  · exact q.elim⟩
/-! ### n & 1, b is True -/
def dOdd : P → P → (P → Prop) → Prop
  | .int i, .int j, Q => (0 ≤ i ∧ j = 1) ∧ Q (.int (i % 2))
  | _, _, _ => False
theorem os_odd : OpS K (fun x y H Q => ∃ n : Nat, x = .int (n : Int) ∧ y = .int 1 ∧ Q (.int ((n % 2 : Nat) : Int)) H) dOdd := ⟨fun {B H x y p q QD Q} e rx ry r k => by
  unfold dOdd at r
  split at r
  · rename_i i j
    obtain ⟨⟨h0, rfl⟩, r⟩ := r
    obtain ⟨n, rfl⟩ := Int.eq_ofNat_of_zero_le h0
    refine ⟨n, rx, ry, k _ B H _ r ?_ (.refl e)⟩
    show V.int _ = V.int _
    congr 1
  · exact r.elim⟩
def dIsB : P → P → (P → Prop) → Prop
  | .bl a, .bl b, Q => Q (.bl (decide (a = b)))
  | _, _, _ => False
theorem os_isB : OpS K (fun x y H Q => ∃ a b, x = .bl a ∧ y = .bl b ∧ Q (.bl (decide (a = b))) H) dIsB := ⟨fun {B H x y p q QD Q} e rx ry r k => by
  unfold dIsB at r
  split at r
  · exact ⟨_, _, rx, ry, k _ B H _ r rfl (.refl e)⟩
  · exact r.elim⟩
def dNotB : P → P → (P → Prop) → Prop
  | .bl a, .bl b, Q => Q (.bl (!decide (a = b)))
  | _, _, _ => False
theorem os_notB : OpS K (fun x y H Q => ∃ a b, x = .bl a ∧ y = .bl b ∧ Q (.bl (!decide (a = b))) H) dNotB := ⟨fun {B H x y p q QD Q} e rx ry r k => by
  unfold dNotB at r
  split at r
  · exact ⟨_, _, rx, ry, k _ B H _ r rfl (.refl e)⟩
  · exact r.elim⟩
/-! ### an own instance and an int -/
def rOwnI (K : PySem.W.Frag) (C : Addr) (sp : Sp) (E : XK) : R2 := fun x y H Q => ∃ a dx vs n, x = .ref a ∧ y = .int n ∧ H a = some (.ins C dx vs) ∧ sp [x, y] H Q E
def dOwnI (C : Addr) (fs : FSp) : P → P → (P → Prop) → Prop := fun p q Q => match p, q with
  | .ins C1 f1, .int n => C1 = C ∧ pcall fs [.ins C1 f1, .int n] Q
  | _, _ => False
theorem os_ownI {C : Addr} {fs : FSp} {E : XK} : OpS K (rOwnI K C (fun vs H Q E => spD K fs (vs ++ []) H Q E) E) (dOwnI C fs) := ⟨fun {B H x y p q QD Q} ex rx ry r k => by
  unfold dOwnI at r
  split at r
  · rename_i C1 f1 n
    obtain ⟨rfl, r⟩ := r
    obtain ⟨a, dx, fv, rfl, h1, h2⟩ := id rx
    cases (show y = V.int n from ry)
    exact ⟨a, dx, fv, n, rfl, rfl, ex a _ h1, callPP (ps := [_, _]) ex ⟨_, _, rfl, rx, _, _, rfl, ry, rfl⟩ r fun z v B' H' qz rz g => k v B' H' z qz rz g⟩
  · exact r.elim⟩
/-- what the right side's int tells of the operator -/
structure OwnI (K : PySem.W.Frag) (C : Addr) (nm rn : Str) : Prop where
  hr : PySem.W.findIn K (.ref C) rn = some none
  h1 : ∃ fo, PySem.W.findIn K (.type "int") nm = some fo
  h2 : ∃ ro, PySem.W.findIn K (.type "int") rn = some ro
  hs : PySem.W.subIn K (.type "int") (.ref C) = some false
theorem op_ownI {CX : CXT} {op : Operator} {C g : Addr} {k : Nat} {sp : Sp} {E : XK} (F : OwnF X.K C g (PySem.dunder op.info.2)) (J : OwnI X.K C (PySem.dunder op.info.2) (PySem.dunderR op.info.2)) (hc : PySem.W.selfFirst X.K C = true) (f : FnR X.prog X.w X.K X.mg X.base CX k g sp) (hr : Room k X.A) (hx : Passes CX X E) : OpR X (binaryOp op) (rOwnI X.K C sp E) := by
  intro pins s σ H x y v u Q I rx ry h
  obtain ⟨a, dx, vs, n, rfl, rfl, ha, q⟩ := h
  cases (show v = Value.ref a from rx)
  obtain ⟨t, rfl⟩ := ry
  obtain ⟨mA, O, _⟩ := ins_get I.hok ha
  obtain ⟨od, IA, _⟩ := O.look
  obtain ⟨m, hF⟩ := I.fr
  obtain ⟨fo, h1⟩ := J.h1
  obtain ⟨ro, h2⟩ := J.h2
  refine PySem.W.ksp_binT (op := op) (T := "int") hF I.ok.mod.kin IA rfl hc F.at_ F.fn J.hr (.inl rfl) h1 h2 J.hs ?_
  refine wpAny_mono (wpAny_call (run_fnR (us := [.ref a, .int n t]) (vs := [.ref a, .int n]) f hr hx I (.cons rfl (.cons ⟨t, rfl⟩ .nil)) q)) (fun w s' z => ?_) fun _ _ x => x
  obtain ⟨z', H', I', rz, qz⟩ := z
  exact SlX.cmpback rz ⟨z', H', I', rz, qz⟩
end
/-! ### enumerate -/
theorem meets_enum1 {v : Value} {o : Obj} {H : Heap → Prop} (B : Begins v o H) :
    Meets (Builtin.«enumerate.__new__» ⟨[.type "enumerate", v], []⟩) (fun _ R s => H s.heap ∧
      R (.ok (.ret (.ref (s.heap.push o).objs.size))) { s with heap := (s.heap.push o).push { cls := .type "enumerate", data := .fields #[.none, .bool false, .ref s.heap.objs.size, rawInt 0, .none, .none] } }) :=
  .of_wp fun prog w A R s h => by
    obtain ⟨hp, g, d, tk, os⟩ := s; obtain ⟨h1, h⟩ := h
    have hsub := sub_enumerate
    have q1 : ∀ {A' : Around} {E : Value → Shared → Prop} {Q : Value → Shared → Prop}, Q (.ref hp.objs.size) ⟨hp.push o, g, d, tk, os⟩ → wpAny (model prog w) A' (pyIter v) Q E ⟨hp, g, d, tk, os⟩ :=
      fun q => B.iter prog w _ _ ⟨hp, g, d, tk, os⟩ _ h1 q
    wp_walk using q1
    refine wpAny_stack_any fun st => wpAny_pure ?_
    split
    · rename_i c _ _ _ _ _
      cases (c == Value.type "enumerate")
      · wp_walk using q1
        exact ⟨_, rfl, h⟩
      · wp_walk using q1
        exact ⟨_, rfl, h⟩
    · wp_walk using q1
      exact ⟨_, rfl, h⟩
theorem enum1_begins {prog : Program} {w : World} {A : Around} {E : Value → Shared → Prop} {s : Shared} {v : Value} {o : Obj} {H : Heap → Prop} {Q : Value → Shared → Prop} (B : Begins v o H) (h1 : H s.heap)
    (h : ∀ h', IsEnum h' (s.heap.objs.size + 1) s.heap.objs.size 0 .none → h'.get? s.heap.objs.size = some o → h'.objs.size = s.heap.objs.size + 2 →
      (∀ b o, s.heap.get? b = some o → h'.get? b = some o) → Q (.ref (s.heap.objs.size + 1)) { s with heap := h' }) :
    wpAny (model prog w) A (call (.type "enumerate") [v]) Q E s := by
  refine callType_new F.called_enumerate (by decide) (F.typeCall_enumerate_1 _) (F.newCall_enumerate_1 _) (fun obj => F.args_object_init_2 obj _) F.entry_enumerate_new
    (meets_enum1 B) ⟨h1, ?_⟩
  have hz : (s.heap.push o).objs.size = s.heap.objs.size + 1 := Heap.size_push ..
  show _ ∧ _
  rw [hz]
  have he : IsEnum ((s.heap.push o).push { cls := .type "enumerate", data := .fields #[.none, .bool false, .ref s.heap.objs.size, rawInt 0, .none, .none] }) (s.heap.objs.size + 1) s.heap.objs.size 0 .none := by
    have := Heap.get?_push_size (s.heap.push o) (o := { cls := .type "enumerate", data := .fields #[.none, .bool false, .ref s.heap.objs.size, rawInt 0, .none, .none] }) rfl
    rw [hz] at this; exact this
  refine ⟨⟨_, he, rfl⟩, h _ he (Heap.get?_push_of_some _ (Heap.get?_push_size _ B.free)) (by rw [Heap.size_push, hz]) fun b o x => Heap.get?_push_of_some _ (Heap.get?_push_of_some _ x)⟩
def IteG (K : PySem.W.Frag) (x : Src) : It :=
  ⟨fun i H => ∃ (xs : List V) (y : V), x.Has K H xs ∧ xs[i]? = some y,
   fun i H v H' => ∃ T y, v = .ref T ∧ H T = none ∧ H' = upd H T (.tup [.int (i : Nat), y]) ∧ ∀ xs, x.Has K H xs → xs[i]? = some y,
   fun i H => ∃ xs : List V, x.Has K H xs ∧ xs.length = i⟩
theorem turn_enumG {P : Program} {w : World} {K : PySem.W.Frag} {elts : List Expr} {kk : Nat} {tpos : Pos} {x : Src} {N : Addr} (ha : ∀ c ∈ x.addr, c < N) :
    Turn P w K (.Tuple elts kk tpos) (IteG K x) [N + 1, N] (N + 1) (fun i h => (∃ old, IsEnum h (N + 1) N ((i : Nat) : Int) old) ∧ x.At h N i) where
  mem := by simp
  obj := fun i h st b hb => by
    obtain ⟨⟨old, he⟩, hi⟩ := st
    have e' : b = N + 1 ∨ b = N := by simpa using hb
    rcases e' with z | z
    · rw [z]; exact ⟨_, he, fun v q => nomatch q⟩
    · rw [z]; exact hi.obj
  keep := fun i h h' st k => by
    obtain ⟨⟨old, he⟩, hi⟩ := st
    exact ⟨⟨old, k _ (by simp) _ he⟩, hi.keep fun o q => k N (by simp) o q⟩
  item := by
    intro X hP hw hK hc i pins s σ H E I hf st hg
    subst hP hw hK
    obtain ⟨⟨old, he⟩, hit⟩ := st
    obtain ⟨xs, y, hq, hx⟩ := hg
    have hh : X.A.in1.handled = none := I.ok.hd hc
    obtain ⟨P1, S1, D1, s1, k1, r1⟩ := src_draws I hh hq hit fun c hm => Nat.ne_of_lt (ha c hm)
    have hel : N + 1 < s.heap.objs.size := Heap.lt_size he
    have hi1 := (List.getElem?_eq_some_iff.mp hx).1
    refine wpAny_pyNext_enum_itemD D1 he s1 hi1 (Nat.succ_ne_self N) (fun hm => ?_) fun u h' tk p1 ho h1' hT hsz hk => ?_
    · rcases List.mem_cons.mp hm with e | hm
      · exact Nat.succ_ne_self N e
      · exact absurd (ha _ hm) (Nat.not_lt.mpr (Nat.le_succ N))
    obtain ⟨y1, e1, ru1⟩ := r1 i u p1
    rw [hx] at e1; cases e1
    refine ⟨_, rfl, wpAny_letOwnedTupleGo_enum (s := { s with heap := h', toks := tk + 1 }) ho fun h'' he' sb => ?_⟩
    have hT2 : h''.get? s.heap.objs.size = some { cls := .type "tuple", data := .seq #[.int i tk, u] } := (sb.2 _ (Nat.ne_of_gt hel)).trans hT
    have new : ObjOk X.prog X.w (upd H s.heap.objs.size (.tup [.int (i : Nat), y])) h'' s.heap.objs.size (.tup [.int (i : Nat), y]) :=
      ⟨by show 2 ≤ sizeLine; decide, [.int i tk, u], .cons ⟨_, rfl⟩ (.cons ru1 .nil), ⟨_, hT2, rfl, _, rfl⟩⟩
    have I1 : Inv X pins σ (upd H s.heap.objs.size (.tup [.int (i : Nat), y])) { s with heap := h'', toks := tk + 1 } :=
      I.turnedNew (ch := [N + 1, N]) (fun b ob hb q => (sb.2 b (fun z => hb (by simp [z]))).trans (hk b ob (fun z => hb (by simp [z])) (fun z => hb (by simp [z])) q)) hf (Nat.le_refl _) new
    refine ⟨.ref s.heap.objs.size, _, I1, rfl, ⟨_, y, rfl, I.hok.fresh (Nat.le_refl _), rfl, fun l hl => by rw [src_inj I hl hq]; exact hx⟩, ⟨⟨u, ?_⟩, (k1 _ _ h1').keep fun o q => (sb.2 N (Ne.symm (Nat.succ_ne_self N))).trans q⟩, fun b hb => ?_⟩
    · have e1 : ((i + 1 : Nat) : Int) = (i : Int) + 1 := by omega
      rw [e1]; exact he'
    · have hb' : b < s.heap.objs.size := by
        have e' : b = N + 1 ∨ b = N := by simpa using hb
        rcases e' with z | z
        · rw [z]; exact hel
        · rw [z]; exact Nat.lt_of_succ_lt hel
      rw [upd_ne (Nat.ne_of_lt hb')]
      exact (hf b hb).1
  done := by
    intro X hP hw hK hc i pins s σ H E I hf st hg
    subst hP hw hK
    obtain ⟨⟨old, he⟩, hit⟩ := st
    obtain ⟨xs, hq, rfl⟩ := hg
    have hh : X.A.in1.handled = none := I.ok.hd hc
    obtain ⟨P1, S1, D1, s1, k1, r1⟩ := src_draws I hh hq hit fun c hm => Nat.ne_of_lt (ha c hm)
    exact wpAny_pyNext_enum_endD D1 he s1 fun h' hk => ⟨rfl, I.turnedL (t' := s.toks) (ch := [N + 1, N]) (fun c o hb q => hk c o (fun q' => hb (by simp [q'])) q) hf⟩
  self := fun A i s Q E st h => let ⟨⟨_, he⟩, _⟩ := st; wpAny_pyIter_enum he h
def iEnumG (K : PySem.W.Frag) (ta : TA) : TI := fun σ H R => ta σ H fun vs H1 => ∃ (x : Src) (xs : List V), vs = [x.v] ∧ x.Has K H1 xs ∧ R (IteG K x) H1
theorem pi_enumG {X : Cx} {e : Expr} {ta : TA} {p pos tpos : Pos} {elts : List Expr} {kk : Nat} (hg : Gl X "enumerate") (hm : X.mg "enumerate" = none) (ha : PA X [e] ta) (hs : starEach [e] X.env = [(false, eval e X.env)] := by rfl) :
    PI X (.Tuple elts kk tpos) (.Call (.Name "enumerate" p) [e] [] pos) (iEnumG X.K ta) := by
  refine ⟨fun pins s σ H R I h => ?_⟩
  refine PyProof.Rows.Call_ (ld_blt I hg hm PyProof.Rows.boot_enumerate (PyProof.Rows.callWith_type1 (thn (ha.run pos pins s σ H _ I h) fun us s1 ⟨vs, H1, I1, r1, q1⟩ => ?_) hs rfl))
  obtain ⟨x, xs, ex, hq, q⟩ := q1
  subst ex
  cases r1 with
  | cons r rr =>
    cases rr
    obtain ⟨o1, Hh1, B1, g1, l1, a1⟩ := src_begins I1 hq r
    refine enum1_begins B1 g1 fun h' he hit hsz hk => wpAny_pyIter_enum he ?_
    have I2 : Inv X pins σ H1 { s1 with heap := h' } := I1.kept (t' := s1.toks) hk
    refine ⟨s1.heap.objs.size + 1, [s1.heap.objs.size + 1, s1.heap.objs.size], _, _, H1, rfl, I2, turn_enumG l1, ⟨⟨.none, he⟩, a1 _ _ hit⟩, fun b hb => ?_, q⟩
    have e' : b = s1.heap.objs.size + 1 ∨ b = s1.heap.objs.size := by simpa using hb
    have hle : s1.heap.objs.size ≤ b := by
      rcases e' with z | z
      · rw [z]; exact Nat.le_add_right _ _
      · rw [z]; exact Nat.le_refl _
    exact I1.fpOk hle (I1.hok.fresh hle)
def enumP : Nat → List P → List P
  | _, [] => []
  | k, p :: ps => .tup [.int (k : Int), p] :: enumP (k + 1) ps
theorem enumP_get : ∀ {ps : List P} {k i : Nat} {r : P}, (enumP k ps)[i]? = some r → ∃ p, ps[i]? = some p ∧ r = .tup [.int ((k + i : Nat) : Int), p]
  | [], _, _, _, h => by simp [enumP] at h
  | p :: ps, k, 0, r, h => by cases h; exact ⟨p, rfl, rfl⟩
  | p :: ps, k, i + 1, r, h => by
    obtain ⟨q, h1, h2⟩ := enumP_get (ps := ps) (k := k + 1) (i := i) h
    exact ⟨q, h1, by rw [h2, show k + 1 + i = k + (i + 1) by omega]⟩
theorem enumP_len : ∀ (ps : List P) (k : Nat), (enumP k ps).length = ps.length
  | [], _ => rfl
  | p :: ps, k => by show (enumP (k + 1) ps).length + 1 = _; rw [enumP_len]; rfl
section
variable {K : PySem.W.Frag} {X : Cx} {m : Bool} {ta : TA} {da : dA} {e : Expr}
theorem itok_enum {B0 : Hp} {x : Src} {ps : List P} {vs : List V} (h1 : x.Has K B0 vs) (r1 : RpA K B0 ps vs) : ItOk K (IteG K x) B0 (enumP 0 ps) := fun B H i e1 e2 hle => by
  have g1 := h1.up (e1.trans e2)
  have l1 := r1.length
  have l3 := enumP_len ps 0
  refine ⟨fun p hp => ?_, fun hge => ⟨vs, g1, by omega⟩⟩
  obtain ⟨p1, k1, rfl⟩ := enumP_get hp
  obtain ⟨v1, w1, z1⟩ := r1.get k1
  refine ⟨⟨vs, v1, g1, w1⟩, fun z H2 hz => ?_⟩
  obtain ⟨T, a, rfl, hT, rfl, f1⟩ := hz
  have := f1 vs g1
  rw [w1] at this; cases this
  have g := gr_new (o := .tup [.int (i : Nat), v1]) e2 hT
  exact ⟨_, g, T, [.int (i : Nat), v1], rfl, SqT.of upd_same, .int (i : Nat), [v1], rfl, by rw [Nat.zero_add]; rfl, v1, [], rfl, Rp.mono (e1.trans g.b) _ z1, rfl⟩
def enumQ (as : List AR) (f : List P → Prop) : Prop := match as with
  | [.inl p] => (match pseq p with
    | some ps => f (enumP 0 ps)
    | none => False)
  | _ => False
def diEn (da : dA) : dI := fun env Q => da env fun as e => enumQ as fun ps => Q ps e
theorem snd_ien (h : SndA m K ta da) : SndI m K (iEnumG K ta) (diEn da) := ⟨fun {B H σ env G QD R} w q k => h.run w q fun as e vs B1 H1 G1 q1 w1 r1 s1 u1 => by
  change enumQ as fun ps => QD ps e at q1
  unfold enumQ at q1
  split at q1
  · rename_i p
    split at q1
    · rename_i ps hp
      obtain ⟨v, l, rfl, z1, z3⟩ := r1
      cases (show l = [] from z3)
      obtain ⟨x, vs, rfl, f1, f2⟩ := pseq_src z1 hp
      exact ⟨x, vs, rfl, f1.up w1.ex, k _ e B1 H1 G1 _ q1 w1 s1 u1 (itok_enum f1 f2)⟩
    · exact q1.elim
  · exact q1.elim⟩
theorem di_enum {p pos tpos : Pos} {elts : List Expr} {kk : Nat} (hg : Gl X "enumerate") (hm : X.mg "enumerate" = none) (ha : DA m X [e] ta da) (hs : starEach [e] X.env = [(false, eval e X.env)] := by rfl) :
    DI m X (.Tuple elts kk tpos) (.Call (.Name "enumerate" p) [e] [] pos) (iEnumG X.K ta) (diEn da) := ⟨pi_enumG hg hm ha.pe hs, snd_ien ha.sd⟩
end
end DL
set_option Elab.async false
set_option linter.all false
set_option maxRecDepth 100000
namespace DL
open PySem PySem.Spec L2
/-! ### errors: what is raised, over data -/
/-- an own error with one field -/
structure Xn where
  C : Addr
  f : Str
  p : P
abbrev FXp := List D → (Xn → Prop) → Prop
/-- the way out is open to what RD says -/
def HE [Rf] (K : PySem.W.Frag) (RD : Xn → Prop) (E : XK) : Prop := ∀ (x : Xn) (dd : Addr) (v : V) (B H : Hp), RD x → Ex Rf.R B → Ex B H → B dd = none → H dd = some (.xd [(x.f, v)]) → Rp K B x.p v → E (.ref x.C) (some dd) H
theorem HE.no [Rf] {K : PySem.W.Frag} {E : XK} : HE K (fun _ => False) E := fun _ _ _ _ _ h => h.elim
def spR (K : PySem.W.Frag) (fx : FXp) : Sp := fun vs H _ E => ∃ B ds G RD, Wd0 K B H (vs.map some) (ds.map some) G ∧ fx ds RD ∧ @HE ⟨B⟩ K RD E
/-- it ends, or an error leaves -/
def spX (K : PySem.W.Frag) (fs : FSp) (fx : FXp) : Sp := fun vs H Q E => spD K fs vs H Q E ∨ spR K fx vs H Q E
section
variable {P' : Program} {w' : World} {K : PySem.W.Frag} {mg : Str → Option Value} {base : Heap}
/-- a def that may raise keeps its promise over data -/
theorem Fun.okDX {x qual : Str} {st : Stmt} {f : Addr} {fd : FuncData} {N ps : List Str} {k : Nat} {fs : FSp} {fx : FXp} (pn : List Nat) (F : L2.Fun K x qual st f fd) (S : FnScope N ps (defScope st))
    (len : ∀ ds QD, fs ds QD → ds.length = ps.length ∧ lentOk pn 0 ds = true) (lenX : ∀ ds RD, fx ds RD → ds.length = ps.length)
    (hbody : ∀ [Rf] (cdv : Value) (A : Around) (outer : List PySem.Env) (s : Shared) (H : Hp) (E : XK) (RD : Xn → Prop), HE K RD E → Room k (A.deeper (PyProof.Rows.envOfC qual (defScope st) s.heap.objs.size f cdv)) →
      ∃ ts dS', DSs pn (cxOf (L2.CX P' w') P' w' K mg base N qual (defScope st) f cdv A outer s H E) (defBody st) ts dS' ∧
        (∀ ds QD, fs ds QD → dS' { nx := fun env => pn.all (has env) = true ∧ QD (.sh .non) (back pn env 0 ds), rt := fun d env => pn.all (has env) = true ∧ QD d (back pn env 0 ds) } (startE N ds)) ∧
        (∀ ds, fx ds RD → dS' { nx := fun _ => False, rt := fun _ _ => False } (startE N ds))) :
    FnOk P' w' K mg base (L2.CX P' w') (k + 1) f fd ps (spX K fs fx) := by
  refine F.okX S (fun vs H Q E h => ?_) (fun cdv A outer s H vs Q E hr h => ?_)
  · rcases h with ⟨B, ds, G, QD, w, h, _⟩ | ⟨B, ds, G, RD, w, h, _⟩
    · have := w.len
      rw [List.length_map, List.length_map] at this
      rw [← this]
      exact (len ds QD h).1
    · have := w.len
      rw [List.length_map, List.length_map] at this
      rw [← this]
      exact lenX ds RD h
  · rcases h with ⟨B, ds, G, QD, w, h, q⟩ | ⟨B, ds, G, RD, w, h, he⟩
    · obtain ⟨ts, dS', hd, hr', _⟩ := hbody cdv A outer s H E (fun _ => False) HE.no hr
      have hl := (len ds QD h).2
      refine ⟨ts, hd.pe, hd.sd.run (D := { nx := fun _ H' => Q .non H', rt := Q }) (Wd.start (N := N) w (rf0_ex B)) (hr' ds QD h) ?_ ?_ (fun _ _ _ _ _ h => h.elim) (fun _ _ _ _ _ h => h.elim)⟩
      · intro env' σ' B' H' G' hq wq sq pq
        have wb := Wd.back w sq.ex wq pq hl hq.1
        exact q _ _ .non [] B' H' _ hq.2 wb ⟨⟨rfl, rfl⟩, List.nodup_nil, fun _ h => absurd h List.not_mem_nil, fun _ h => absurd h List.not_mem_nil, fun _ h => absurd h List.not_mem_nil⟩
          (sq.cut fun i a ha => by
            change a ∈ (if pn.contains i ∧ i < ds.length then G' i else []) at ha
            split at ha
            · exact ha
            · cases ha)
      · intro d env' σ' v F B' H' G' hq wq oq sq pq
        have wb := Wd.back w sq.ex wq pq hl hq.1
        refine q _ _ v F B' H' _ hq.2 wb ⟨oq.rp, oq.nd, oq.nb, oq.nw, fun a ha i hi => ?_⟩ (sq.cut fun i a ha => ?_)
        · change a ∈ (if pn.contains i ∧ i < ds.length then G' i else []) at hi
          split at hi
          · exact oq.ap a ha i hi
          · cases hi
        · change a ∈ (if pn.contains i ∧ i < ds.length then G' i else []) at ha
          split at ha
          · exact ha
          · cases ha
    · letI : Rf := ⟨B⟩
      obtain ⟨ts, dS', hd, _, hr'⟩ := hbody cdv A outer s H E RD he hr
      refine ⟨ts, hd.pe, hd.sd.run (D := { nx := fun _ H' => Q .non H', rt := Q }) (Wd.start (N := N) w (Ex.refl B)) (hr' ds h) ?_ ?_ (fun _ _ _ _ _ h => h.elim) (fun _ _ _ _ _ h => h.elim)⟩
      · intro env' σ' B' H' G' hq
        exact hq.elim
      · intro d env' σ' v F B' H' G' hq
        exact hq.elim
/-- what never raises here needs no way out -/
theorem FnOkX.plain {f : Addr} {fd : FuncData} {ps : List Str} {k : Nat} {fs : FSp} {fx : FXp} (F : FnOk P' w' K mg base (L2.CX P' w') k f fd ps (spX K fs fx)) : FnOk P' w' K mg base CX0 k f fd ps (spD K fs) :=
  ⟨fun vs H Q E h => F.len vs H Q E (.inl h), fun A outer s H args us vs Q E hr he hb hv hs =>
    codeAny_mono (F.run A outer s H args us vs Q (fun _ _ _ => False) hr he hb hv (.inl hs)) fun r s' hq => by
      cases r with
      | error e =>
        obtain ⟨_, _, _, _, _, _, _, _, _, _, _, _, z⟩ := hq
        exact z.elim
      | ok fl => cases fl <;> exact hq⟩
end
section
variable [Rf] {m : Bool} {pn : List Nat} {K : PySem.W.Frag} {te : TE} {de : dE} {ta : TA} {da : dA} {X : Cx} {a e : Expr} {es : List Expr} {pos : Pos} {E : XK} {RD : Xn → Prop}
/-! ### raise C(e), C's __init__ keeping e under f -/
/-- what such an __init__ does -/
def spErr (K : PySem.W.Frag) (C : Addr) (f : Str) : Sp := fun vs H Q _ => ∃ (x : Addr) (v : V), vs = [.ref x, v] ∧ OexC K C ∧ PySem.W.findIn K (.ref C) f = some none ∧ H x = some (exo x C none) ∧
  ∀ dx, H dx = none → dx ≠ x → Q .non (upd (upd H dx (exd dx [(f, v)])) x (exo x C (some dx)))
abbrev tErr (K : PySem.W.Frag) (C : Addr) (f : Str) (E : XK) (ta : TA) : TS := fun _ σ H => tMkO C (spErr K C f) [] ta σ H fun cls d H' => E cls d H'
def errQ (C : Addr) (f : Str) (RD : Xn → Prop) (as : List AR) : Prop := match as with
  | [.inl p] => RD ⟨C, f, p⟩
  | _ => False
def dErr (C : Addr) (f : Str) (RD : Xn → Prop) (da : dA) : dS := fun _ env => da env fun as _ => errQ C f RD as
theorem snd_err {C : Addr} {f : Str} (hE : HE K RD E) (T : OexC K C) (hf : PySem.W.findIn K (.ref C) f = some none) (h : SndA m K ta da) : SndS pn K (tErr K C f E ta) (dErr C f RD da) := ⟨fun {B H σ env G Dd D} w q n r k1 k2 => h.run w q fun as e vs B1 H1 G1 q1 w1 r1 s1 u1 => by
  change errQ C f RD as at q1
  unfold errQ at q1
  split at q1
  · rename_i p
    obtain ⟨v, l, rfl, z1, z2⟩ := r1
    cases (show l = [] from z2)
    refine ⟨Nat.le_of_ble_eq_true rfl, fun x hx => ⟨x, v, rfl, T, hf, upd_same, fun dx hd ne => ?_⟩⟩
    have hdx : H1 dx = none := by rw [upd_ne ne] at hd; exact hd
    refine ⟨rfl, dx, [(f, v)], upd_same, by rw [upd_ne ne]; exact upd_same, hdx, ?_⟩
    refine hE ⟨C, f, p⟩ dx v B1 _ q1 w1.rf (fun b o hb => ?_) (w1.ex.back hdx) upd_same z1
    have hb1 := w1.ex b o hb
    have nx := ne_of_none hb1 hx
    have nd := ne_of_none hb1 hdx
    rw [upd_ne nd, del_ne nx, upd_ne nx, upd_ne nd, upd_ne nx]
    exact hb1
  · exact q1.elim⟩
/-! ### f(..) that may raise: what it raises leaves -/
abbrev WO (E : XK) : WX := fun cls d _ H => E cls d H
def dCallX (fs : FSp) (fx : FXp) (RD : Xn → Prop) (da : dA) : dE := fun env Q => da env fun as e => match prs as with
  | some ps => pcall fs ps (fun z => Q z e) ∨ fx (ps.map D.sh) RD
  | none => False
theorem raise_sp {fx : FXp} {ps : List P} {vs : List V} {B H : Hp} {Q : VK} (hE : HE K RD E) (w : Ex Rf.R B) (ex : Ex B H) (r : RpA K B ps vs) (h : fx (ps.map D.sh) RD) : spR K fx vs H Q E :=
  ⟨H, _, _, RD, plain_wd (Ex.refl H) (RpA.mono ex ps r), h, fun x dd v B2 H2 hx e1 e2 hn hd rp => hE x dd v B2 H2 hx ((w.trans ex).trans e1) e2 hn hd rp⟩
theorem snd_callX {fs : FSp} {fx : FXp} (hE : HE K RD E) (h : SndA m K ta da) : SndE m K (tCallS (spX K fs fx) (WE (WO E)) ta) (dCallX fs fx RD da) := ⟨fun {B H σ env G QD Q} w q k => h.run w q fun as e vs B1 H1 G1 q1 w1 r1 s1 u1 => by
  change (match prs as with | some ps => pcall fs ps (fun z => QD z e) ∨ fx (ps.map D.sh) RD | none => False) at q1
  split at q1
  · rename_i ps hp
    rcases q1 with q1 | q1
    · exact .inl (callPP w1.ex (r1.all hp) q1 fun z v B' H' qz rz gg => k z e v B' H' G1 qz (w1.gr gg) rz (s1.trans gg.stp) (u1.trans (.gr gg)))
    · exact .inr (raise_sp hE w1.rf w1.ex (r1.all hp) q1)
  · exact q1.elim⟩
theorem ds_err {C : Addr} {f : Str} {st : Stmt} (h : PA X [e] ta → PS X st (tErr X.K C f E ta)) (hE : HE X.K RD E) (T : OexC X.K C) (hf : PySem.W.findIn X.K (.ref C) f = some none) (ha : DA false X [e] ta da) : DS pn X st (tErr X.K C f E ta) (dErr C f RD da) := ⟨h ha.pe, snd_err hE T hf ha.sd⟩
theorem de_callX {fs : FSp} {fx : FXp} {e0 : Expr} (h : PA X (e0 :: es) ta → PE X a (tCallS (spX X.K fs fx) (WE (WO E)) ta)) (hE : HE X.K RD E) (ha : DA m X (e0 :: es) ta da) : DE m X a (tCallS (spX X.K fs fx) (WE (WO E)) ta) (dCallX fs fx RD da) := ⟨h ha.pe, snd_callX hE ha.sd⟩
end
end DL
set_option Elab.async false
set_option linter.all false
set_option maxRecDepth 100000
namespace DL
open PySem PySem.Spec L2
/-! ### what may raise, in a try: the way out knows the slots -/
section
variable {X : Cx} {CT : CXT} {k : Nat} {C g : Addr} {gd : FuncData} {prm : List Str} {sp : Sp} {Eσ : St → XK} {nm : Str} {p1 p2 : Pos} {a0 fx0 : Expr} {as0 : List Expr} {tf : TE} {ta : TA}
theorem make_at {pins : List (Addr × Obj)} {σ : St} {H : Hp} {s : Shared} {Q : VK} {us : List Value} {vs : List V} (cm : Mk X.K C g) (ok : FnOk X.prog X.w X.K X.mg X.base CT k g gd prm sp) (room : Room (k + 1) X.A) (bn : Binds X.K gd prm []) (pass : PassesAt CT X σ (Eσ σ))
    (iv : Inv X pins σ H s) (rel : Vals vs us) (hsp : ∀ x dx, H x = none → H dx = none → dx ≠ x → sp (V.ref x :: vs) (upd (upd H dx (.own x)) x (.ins C dx [])) (fun v H2 => v = .non ∧ Q (.ref x) H2) (Eσ σ)) :
    wpAny (model X.prog X.w) X.A (call (.ref C) us) (EP X pins σ Q) X.xe s := by
  have n0 := iv.hok.fresh (Nat.le_refl s.heap.objs.size)
  have n1 := iv.hok.fresh (Nat.le_succ s.heap.objs.size)
  have start := hsp _ _ n1 n0 (Nat.ne_of_lt (Nat.lt_succ_self _))
  have iv2 := Inv.made (C := C) iv
  have rel2 : Vals (V.ref (s.heap.objs.size + 1) :: vs) (Value.ref (s.heap.objs.size + 1) :: us) := .cons rfl rel
  have many : (Value.ref (s.heap.objs.size + 1) :: us).length = prm.length := (rel2.length).symm.trans (ok.len _ _ _ _ start)
  have bound := bn _ (Value.ref (s.heap.objs.size + 1) :: us) iv2.kIn (by rw [List.append_nil]; exact many)
  rw [List.append_nil] at bound
  refine wpAny_call (make_map (f := g) iv.kIn cm.makes cm.init (beq_iff_eq.mp cm.fn) (codeAny_mono (ok.run _ X.stack _ _ _ _ _ _ (Eσ σ) (room.make C us []) (iv2.env0.make C us []) bound rel2 start) fun res s2 out => ?_))
  cases res with
  | error u => exact pass pins _ _ u s2 iv2 out
  | ok fl =>
    cases fl with
    | ret u =>
      obtain ⟨v, H3, iv3, rv, ev, q3⟩ := iv2.after out
      subst ev
      exact ⟨rv, ⟨V.ref (s.heap.objs.size + 1), H3, iv3, rfl, q3⟩⟩
    | _ => exact out.elim
def tMakeS (C : Addr) (sp : Sp) (Eσ : St → XK) (ta : TA) : TE := fun σ H Q => ta σ H fun vs H1 => ∀ x dx, H1 x = none → H1 dx = none → dx ≠ x →
  sp (V.ref x :: vs) (upd (upd H1 dx (.own x)) x (.ins C dx [])) (fun v H2 => v = .non ∧ Q (.ref x) H2) (Eσ σ)
theorem pe_makeAt (cm : Mk X.K C g) (ok : FnOk X.prog X.w X.K X.mg X.base CT k g gd prm sp) (room : Room (k + 1) X.A) (gl : Gl X nm) (at_ : X.mg nm = some (.ref C)) (bn : Binds X.K gd prm []) (pass : ∀ σ, PassesAt CT X σ (Eσ σ)) (ha : PA X (a0 :: as0) ta)
    (hd : (nm == ("__debug__" : Str)) = false := by decide) (he : starEach (a0 :: as0) X.env = (false, eval a0 X.env) :: starEach as0 X.env := by rfl) (hp : (backTo p2 (starEach as0 X.env)).any (·.1) = false := by rfl) :
    PE X (.Call (.Name nm p1) (a0 :: as0) [] p2) (tMakeS C sp Eσ ta) :=
  ⟨fun pins s σ H Q iv h => wpAny_Call_Name_kw (ld_glob iv gl at_ (PySem.W.callWith_K (h₀ := X.base) iv.ok.mod.kin cm.kp (thn (ha.run p2 pins s σ H _ iv h) fun us s1 ⟨vs, H1, iv1, rel, q⟩ => ⟨iv1.kIn, make_at cm ok room bn (pass σ) iv1 rel q⟩) he hp) hd)⟩
theorem raw_at {pins : List (Addr × Obj)} {σ : St} {H : Hp} {s : Shared} {Q : VK} {us : List Value} {vs : List V} (ok : FnR X.prog X.w X.K X.mg X.base CT k g sp) (room : Room k X.A) (pass : PassesAt CT X σ (Eσ σ)) (iv : Inv X pins σ H s) (rel : Vals vs us) (hsp : sp vs H Q (Eσ σ)) :
    codeAny (model X.prog X.w) X.A (.call (.ref g) ⟨us, []⟩) (fun res s2 => match res with | .ok (.ret u) => EP X pins σ Q u s2 | .ok _ => False | .error u => X.xe u s2) s :=
  codeAny_mono (ok X.A X.stack s H us vs Q (Eσ σ) room iv.env0 rel hsp) fun res s2 out => by
    cases res with
    | error u => exact pass pins H s u s2 iv out
    | ok fl =>
      cases fl with
      | ret u => exact iv.after out
      | _ => exact out.elim
def tCallOS (C : Addr) (sp : Sp) (Eσ : St → XK) (tf : TE) (ta : TA) : TE := fun σ H Q => tf σ H fun y H1 => ∃ a, y = V.ref a ∧ ta σ H1 fun vs H2 => (∃ dx fl, H2 a = some (.ins C dx fl)) ∧ sp (V.ref a :: vs) H2 Q (Eσ σ)
theorem pe_callOAt (hf : PE X fx0 tf) (co : StX.CallO X.K C g) (ok : FnR X.prog X.w X.K X.mg X.base CT k g sp) (room : Room k X.A) (pass : ∀ σ, PassesAt CT X σ (Eσ σ)) (ha : PA X (a0 :: as0) ta)
    (ht : eval (.Call fx0 (a0 :: as0) [] p2) X.env = (do callWith p2 (← eval fx0 X.env) [] (backTo p2 (starEach (a0 :: as0) X.env)) (backToKw p2 (keywordEach [] X.env))) := by rfl)
    (he : starEach (a0 :: as0) X.env = (false, eval a0 X.env) :: starEach as0 X.env := by rfl) (hp : (backTo p2 (starEach as0 X.env)).any (·.1) = false := by rfl) : PE X (.Call fx0 (a0 :: as0) [] p2) (tCallOS C sp Eσ tf ta) :=
  ⟨fun pins s σ H Q iv h => PyProof.Rows.Call_ (thn (hf.run pins s σ H _ iv h) fun u s1 ⟨y, H1, iv1, ry, x, ey, q⟩ => by
    subst ey
    obtain rfl : u = Value.ref x := ry
    refine StX.callO_with (thn (ha.run p2 pins s1 σ H1 _ iv1 q) fun us s2 ⟨vs, H2, iv2, rel, hi, q2⟩ => ?_) he hp
    obtain ⟨dx, fl, hi⟩ := hi
    obtain ⟨ox, od, J, hd⟩ := StX.insC_at iv2 (.inr ⟨dx, fl, hi⟩)
    exact ⟨⟨C, ox, od, J, hd⟩, wpAny_call (PySem.W.kco_code iv2.kIn J hd co.at_ co.fn co.fi (raw_at (us := .ref x :: us) (vs := V.ref x :: vs) ok room (pass σ) iv2 (.cons rfl rel) q2))⟩) ht⟩
end
/-! ### a call that may raise, read as it is: it ends, or it raises -/
section
variable [Rf] {pn : List Nat} {K : PySem.W.Frag} {te : TE} {de : dE} {ta : TA} {da : dA} {X : Cx} {fs : FSp} {fx : FXp} {C : Addr}
structure CX1 (K : PySem.W.Frag) (tc : (St → XK) → TE) (rd : Env → (P → Prop) → (Xn → Prop) → Prop) : Prop where
  run : ∀ {B H : Hp} {σ : St} {env : Env} {G : Fp} {QN : P → Prop} {QX : Xn → Prop} {Q : VK} {E : St → XK}, Wd K B H σ env G → rd env QN QX →
    (∀ z v B' H', QN z → Rp K B' z v → Gr B H B' H' → Q v H') →
    (∀ x dd v B' H', QX x → Ex H B' → Ex B' H' → B' dd = none → H' dd = some (.xd [(x.f, v)]) → Rp K B' x.p v → E σ (.ref x.C) (some dd) H') → tc E σ H Q
def cxQ (fs : FSp) (fx : FXp) (QN : P → Prop) (QX : Xn → Prop) (as : List AR) : Prop := match prs as with
  | some ps => pcall fs ps QN ∨ fx (ps.map D.sh) QX
  | none => False
def cxCall (fs : FSp) (fx : FXp) (da : dA) : Env → (P → Prop) → (Xn → Prop) → Prop := fun env QN QX => da env fun as _ => cxQ fs fx QN QX as
theorem cx_call (h : SndA true K ta da) : CX1 K (fun E => tCallS (spX K fs fx) E ta) (cxCall fs fx da) := ⟨fun {B H σ env G QN QX Q E} w q kn kx => h.run w q fun as e vs B1 H1 G1 q1 w1 r1 s1 u1 => by
  obtain ⟨_, _, g⟩ := u1 rfl
  unfold cxQ at q1
  split at q1
  · rename_i ps hp
    rcases q1 with q1 | q1
    · exact .inl (callPP w1.ex (r1.all hp) q1 fun z v B' H' qz rz gg => kn z v B' H' qz rz (g.trans gg))
    · exact .inr ⟨H1, _, _, QX, plain_wd (Ex.refl H1) (RpA.mono w1.ex ps (r1.all hp)), q1, fun x dd v B2 H2 hx e1 e2 hn hd rp => kx x dd v B2 H2 hx (g.h.trans e1) e2 hn hd rp⟩
  · exact q1.elim⟩
/-- C(..) ends, over data -/
theorem make_sp {fs : FSp} {C : Addr} {ps : List P} {vs : List V} {B H : Hp} {QN : P → Prop} {Q : VK} {E : XK} (ex : Ex B H) (r : RpA K B ps vs)
    (q1 : fs (.oi C [] :: ps.map D.sh) fun d ds => match d, ds with | .sh .non, .oi C' fl :: _ => QN (.ins C' fl) | _, _ => False)
    (k : ∀ z v B' H', QN z → Rp K B' z v → Gr B H B' H' → Q v H') {x dx : Addr} (hx : H x = none) (hd : H dx = none) (ne : dx ≠ x) :
    spD K fs (V.ref x :: vs) (upd (upd H dx (.own x)) x (.ins C dx [])) (fun v H2 => v = .non ∧ Q (.ref x) H2) E := by
  refine ⟨B, _, _, _, make_wd ex hx hd ne r, q1, fun d ds v F B2 H2 G2 q2 w2 o2 s2 => ?_⟩
  split at q2
  · rename_i C' fl rest
    refine ⟨o2.rp.2, ?_⟩
    obtain ⟨v0, h0, a, dx', fv, e1, e2, e3, e4, e5⟩ := w2.sl 0 _ rfl
    have ev : V.ref x = v0 := Option.some.inj (Option.some.inj h0)
    rw [← ev] at e2
    cases e2
    -- plain from here on
    have nb : ∀ a ∈ G2 0, B2 a = none := fun a ha => w2.nb 0 a ha
    have fr := frz_gr w2.ex nb
    have hne : ∀ {a : Addr} {o : HO}, H a = some o → a ≠ x ∧ a ≠ dx := fun ha => ⟨ne_of_none ha hx, ne_of_none ha hd⟩
    have up : ∀ {a : Addr} {o : HO}, H a = some o → upd (upd H dx (.own x)) x (.ins C dx []) a = some o := fun ha => by rw [upd_ne (hne ha).1, upd_ne (hne ha).2]; exact ha
    have nG : ∀ {a : Addr} {o : HO}, H a = some o → ∀ i, a ∉ (fun i => if i = 0 then [x, dx] else [] : Fp) i := fun {a o} ha i hi => by
      change a ∈ (if i = 0 then [x, dx] else []) at hi
      split at hi
      · rcases List.mem_cons.mp hi with hi | hi
        · exact (hne ha).1 hi
        · exact (hne ha).2 (List.mem_singleton.mp hi)
      · cases hi
    have nF : ∀ {a : Addr} {o : HO}, H a = some o → a ∉ G2 0 := fun {a o} ha hi => by
      rcases s2.fp 0 a hi with ⟨j, hj⟩ | hn
      · exact nG ha j hj
      · rw [up ha] at hn; cases hn
    have g : Gr B H (frzB B2 H2 (G2 0)) H2 := ⟨s2.ex.trans fr.1, fun a o ha => s2.kp a o (up ha) (nG ha), fr.2, fun a o ha hn => by
      unfold frzB
      rw [if_neg (nF ha)]
      exact s2.bs a o (up ha) hn (nG ha)⟩
    refine k _ _ _ H2 q2 ?_ g
    refine ⟨x, dx', fv, rfl, ?_, RpF.mono fr.1 fl e5⟩
    unfold frzB
    rw [if_pos (by rw [e1]; exact List.mem_cons_self)]
    exact e3
  · exact q2.elim
def mkQ (C : Addr) (fs : FSp) (fx : FXp) (QN : P → Prop) (QX : Xn → Prop) (as : List AR) : Prop := match prs as with
  | some ps => (fs (.oi C [] :: ps.map D.sh) fun d ds => match d, ds with | .sh .non, .oi C' fl :: _ => QN (.ins C' fl) | _, _ => False) ∨ fx (.oi C [] :: ps.map D.sh) QX
  | none => False
def cxMake (C : Addr) (fs : FSp) (fx : FXp) (da : dA) : Env → (P → Prop) → (Xn → Prop) → Prop := fun env QN QX => da env fun as _ => mkQ C fs fx QN QX as
theorem cx_make (h : SndA true K ta da) : CX1 K (fun E => tMakeS C (spX K fs fx) E ta) (cxMake C fs fx da) := ⟨fun {B H σ env G QN QX Q E} w q kn kx => h.run w q fun as e vs B1 H1 G1 q1 w1 r1 s1 u1 => by
  obtain ⟨_, _, g⟩ := u1 rfl
  unfold mkQ at q1
  split at q1
  · rename_i ps hp
    rcases q1 with q1 | q1
    · exact fun x dx hx hd ne => .inl (make_sp w1.ex (r1.all hp) q1 (fun z v B' H' qz rz gg => kn z v B' H' qz rz (g.trans gg)) hx hd ne)
    · exact fun x dx hx hd ne => .inr ⟨H1, _, _, QX, make_wd (Ex.refl H1) hx hd ne (RpA.mono w1.ex ps (r1.all hp)), q1, fun x dd v B2 H2 hx e1 e2 hn hd rp => kx x dd v B2 H2 hx (g.h.trans e1) e2 hn hd rp⟩
  · exact q1.elim⟩
def coQ (fs : FSp) (fx : FXp) (C : Addr) (fl : List (Str × P)) (QN : P → Prop) (QX : Xn → Prop) (as : List AR) : Prop := match prs as with
  | some ps => pcall fs (.ins C fl :: ps) QN ∨ fx ((P.ins C fl :: ps).map D.sh) QX
  | none => False
def coP (C : Addr) (fs : FSp) (fx : FXp) (da : dA) (QN : P → Prop) (QX : Xn → Prop) (p : P) (e : Env) : Prop := match p with
  | .ins C' fl => C' = C ∧ da e fun as _ => coQ fs fx C fl QN QX as
  | _ => False
def cxCallO (C : Addr) (fs : FSp) (fx : FXp) (de : dE) (da : dA) : Env → (P → Prop) → (Xn → Prop) → Prop := fun env QN QX => de env fun p e => coP C fs fx da QN QX p e
theorem cx_callO (h : SndE true K te de) (ga : SndA true K ta da) : CX1 K (fun E => tCallOS C (fun vs H Q E => spX K fs fx (vs ++ []) H Q E) E te ta) (cxCallO C fs fx de da) := ⟨fun {B H σ env G QN QX Q E} w q kn kx => h.run w q fun p e v B1 H1 G1 q1 w1 r1 s1 u1 => by
  obtain ⟨_, _, g⟩ := u1 rfl
  cases p with
  | ins C' fl =>
    obtain ⟨rfl, q1⟩ := q1
    obtain ⟨a, dx, fv, rfl, h1, h2⟩ := id r1
    refine ⟨a, rfl, ga.run w1 q1 fun as e2 vs B2 H2 G2 q2 w2 r2 s2 u2 => ?_⟩
    obtain ⟨_, _, g2⟩ := u2 rfl
    have g12 := g.trans g2
    unfold coQ at q2
    split at q2
    · rename_i ps hp
      refine ⟨⟨dx, fv, w2.ex a _ (s2.ex a _ h1)⟩, ?_⟩
      show spX K fs fx ((V.ref a :: vs) ++ []) H2 Q (E σ)
      rw [List.append_nil]
      have rr : RpA K B2 (P.ins C' fl :: ps) (V.ref a :: vs) := ⟨_, vs, rfl, Rp.mono s2.ex _ r1, r2.all hp⟩
      rcases q2 with q2 | q2
      · exact .inl (callPP (ps := .ins C' fl :: ps) w2.ex rr q2 fun z v B' H' qz rz gg => kn z v B' H' qz rz (g12.trans gg))
      · exact .inr ⟨H2, _, _, QX, plain_wd (Ex.refl H2) (RpA.mono w2.ex _ rr), q2, fun x dd v B3 H3 hx e1 e2 hn hd rp => kx x dd v B3 H3 hx (g12.h.trans e1) e2 hn hd rp⟩
    · exact q2.elim
  | _ => exact q1.elim⟩
/-! ### try: a call .. except C as n: .. -/
end
section
variable {pn : List Nat} {K : PySem.W.Frag}
theorem wd_w {R1 R2 : Rf} (h : Ex R1.R R2.R) {B H : Hp} {σ : St} {env : Env} {G : Fp} (w : @Wd R2 K B H σ env G) : @Wd R1 K B H σ env G := @Wd.mk R1 K B H σ env G (@Wd.toWd0 R2 K B H σ env G w) (h.trans (@Wd.rf R2 K B H σ env G w))
theorem nx_w {R1 R2 : Rf} (h : Ex R1.R R2.R) {B H : Hp} {G : Fp} {σ : St} {nd : Env → Prop} {n : St → Hp → Prop} (a : @Nx R1 K pn B H G σ nd n) : @Nx R2 K pn B H G σ nd n :=
  fun env' σ' B' H' G' q w s p => a env' σ' B' H' G' q (wd_w h w) s p
theorem rt_w {R1 R2 : Rf} (h : Ex R1.R R2.R) {B H : Hp} {G : Fp} {σ : St} {rd : D → Env → Prop} {r : VK} (a : @Rt R1 K pn B H G σ rd r) : @Rt R2 K pn B H G σ rd r :=
  fun d env' σ' v F B' H' G' q w o s p => a d env' σ' v F B' H' G' q (wd_w h w) o s p
theorem run_w {R1 R2 : Rf} (h : Ex R1.R R2.R) {ts : TS} {ds : dS} (a : @SndS R2 pn K ts ds) {B H : Hp} {σ : St} {env : Env} {G : Fp} {Dd : dEnds} {D : Ends} (w : Wd0 K B H σ env G) (up : Ex R2.R B) (q : ds Dd env)
    (n : @Nx R1 K pn B H G σ Dd.nx D.nx) (r : @Rt R1 K pn B H G σ Dd.rt D.rt) (k1 : @Nx R1 K pn B H G σ Dd.bk D.bk) (k2 : @Nx R1 K pn B H G σ Dd.ct D.ct) : ts D σ H :=
  @SndS.run R2 pn K ts ds a B H σ env G Dd D (@Wd.mk R2 K B H σ env G w up) q (nx_w h n) (rt_w h r) (nx_w h k1) (nx_w h k2)
end
section
variable [rI : Rf] {pn : List Nat} {K : PySem.W.Frag} {te : TE} {de : dE} {ta : TA} {da : dA} {X : Cx} {fs : FSp} {fx : FXp} {C : Addr}
theorem nx_none {i : Nat} (hp : i ∉ pn) {B H : Hp} {G : Fp} {σ : St} {nd : Env → Prop} {n : St → Hp → Prop} (a : Nx K pn B H G σ nd n) : Nx K pn B H G σ (fun e => nd (e.set i none)) (fun σ' H' => n (σ'.set i none) H') :=
  fun env' σ' B' H' G' q w s p => a _ _ B' H' _ q ((w.drop i).setN fun d e => by
      rcases Nat.lt_or_ge i env'.length with hl | hl
      · rw [List.getElem?_set_self hl] at e; cases e
      · rw [List.getElem?_eq_none (by rw [List.length_set]; exact hl)] at e; cases e)
    (s.trans (stp_put fun _ h => absurd h List.not_mem_nil)) (p.trans (Pin.set hp))
/-- a value that is no object -/
def atomP : P → Prop
  | .non => True
  | .bl _ => True
  | .int _ => True
  | .str _ => True
  | _ => False
theorem atom_rp {p : P} {v : V} {B : Hp} (h : atomP p) (r : Rp K B p v) (B' : Hp) : Rp K B' p v := by
  cases p <;> first | exact r | exact h.elim
/-- what is asked of an error in the suite's view: its dict stands -/
abbrev rfX (x : Xn) (dd : Addr) (v : V) (r : Rf) : Rf := ⟨upd r.R dd (.xd [(x.f, v)])⟩
def tryX (K : PySem.W.Frag) (c : Value) (i : Nat) (dsu : Addr → Xn → dS) (RD : Xn → Prop) (Dd : dEnds) (env : Env) (x : Xn) : Prop :=
  atomP x.p ∧ ((PySem.W.exmOne K (.ref x.C) c = some true ∧ inE i env = true ∧ ∀ a, dsu a x { nx := fun e => Dd.nx (e.set i none), rt := Dd.rt, bk := fun e => Dd.bk (e.set i none), ct := fun e => Dd.ct (e.set i none) } (env.set i (some (.sh (.ob a))))) ∨
    (PySem.W.exmOne K (.ref x.C) c = some false ∧ RD x))
def dTry (K : PySem.W.Frag) (c : Value) (i : Nat) (rd : Env → (P → Prop) → (Xn → Prop) → Prop) (dsu : Addr → Xn → dS) (RD : Xn → Prop) : dS := fun Dd env => rd env (fun _ => Dd.nx env) (tryX K c i dsu RD Dd env)
theorem snd_try {c : Value} {i : Nat} {tc : (St → XK) → TE} {rd : Env → (P → Prop) → (Xn → Prop) → Prop} {ts : Addr → Value → Option Addr → TS} {dsu : Addr → Xn → dS} {RD : Xn → Prop} {E : XK} (hE : HE K RD E) (hp : i ∉ pn) (hc : CX1 K tc rd)
    (hsu : ∀ (a : Addr) (x : Xn) (dd : Addr) (v : V) (r : Rf), (∀ B, Rp K B x.p v) → r.R dd = none → @SndS (rfX x dd v r) pn K (ts a (.ref x.C) (some dd)) (dsu a x)) :
    SndS pn K (fun D σ H => tDrop (tc (WE (wAs K c i ts (WO E) D))) D σ H) (dTry K c i rd dsu RD) := ⟨fun {B H σ env G Dd D} w q n r k1 k2 => by
  refine hc.run w q (fun z v B' H' qz rz gg => n env σ B' H' G qz (w.gr gg) gg.stp .refl) fun x dd v B' H' qx e1 e2 hn hd rp => ?_
  obtain ⟨hat, ⟨hm, hi, hs⟩ | ⟨hm, hr⟩⟩ := qx
  · refine ⟨true, hm, fun _ a ha => ?_, fun h => by cases h⟩
    have hH : H dd = none := e1.back hn
    have hB : B dd = none := w.ex.back hH
    have hR : Rf.R dd = none := w.rf.back hB
    have g : Gr B H (upd B dd (.xd [(x.f, v)])) H' := ⟨fun b o h => by rw [upd_ne (ne_of_none h hB)]; exact h, e1.trans e2, fun b o h => by
      by_cases e : b = dd
      · subst e; rw [upd_same] at h; cases h; exact hd
      · rw [upd_ne e] at h; exact e2 b o (e1 b o (w.ex b o h)), fun b o h hb => by rw [upd_ne (ne_of_none h hH)]; exact hb⟩
    have w2 := w.gr g
    have hi' := inE_lt hi
    have s4 : Stp B H G (upd B dd (.xd [(x.f, v)])) H' (fun j => if j = i then [] else G j) := g.stp.trans (stp_put fun _ h => absurd h List.not_mem_nil)
    have p4 : Pin pn σ (σ.set i (some (V.ref a))) := Pin.set hp
    have up : Ex Rf.R (upd Rf.R dd (.xd [(x.f, v)])) := fun b o h => by rw [upd_ne (ne_of_none h hR)]; exact h
    have w4 := w2.putS (p := .ob a) (v := V.ref a) hi' rfl
    have up2 : Ex (upd Rf.R dd (.xd [(x.f, v)])) (upd B dd (.xd [(x.f, v)])) := fun b o h => by
      by_cases e : b = dd
      · subst e
        rw [upd_same] at h ⊢; exact h
      · rw [upd_ne e] at h ⊢; exact w.rf b o h
    exact run_w (R1 := rI) (R2 := rfX x dd v rI) up (hsu a x dd v rI (fun B => atom_rp hat rp B) hR) w4.toWd0 up2 (hs a) (nx_none hp (n.at s4 p4)) (r.at s4 p4) (nx_none hp (k1.at s4 p4)) (nx_none hp (k2.at s4 p4))
  · exact ⟨false, hm, fun h => (by cases h), fun _ => hE x dd v B' H' hr (w.rf.trans (w.ex.trans e1)) e2 hn hd rp⟩⟩
end
section
variable {K : PySem.W.Frag} {te : TE} {de : dE}
/-- n.f, n the error in hand -/
def dXf (a : Addr) (x : Xn) (f : Str) (de : dE) : dE := fun env Q => de env fun p e => (match p with | .ob b => b = a | _ => False) ∧ f = x.f ∧ Q x.p e
theorem snd_xf {m : Bool} {a dd : Addr} {x : Xn} {v : V} {f : Str} {r : Rf} (hv : ∀ B, Rp K B x.p v) (h : @SndE (rfX x dd v r) m K te de) : @SndE (rfX x dd v r) m K (tXf a (.ref x.C) (some dd) x.C f te) (dXf a x f de) := by
  letI : Rf := rfX x dd v r
  exact ⟨fun {B H σ env G QD Q} w q k => h.run w q fun p e u B1 H1 G1 q1 w1 r1 s1 u1 => by
    obtain ⟨hp, hf, q1⟩ := q1
    subst hf
    cases p with
    | ob b =>
      subst hp
      refine ⟨r1, rfl, dd, [(x.f, v)], v, rfl, w1.ex dd _ (w1.rf dd _ upd_same), ?_, k x.p e v B1 H1 G1 q1 w1 (hv B1) s1 u1⟩
      rw [List.lookup, beq_self_eq_true]
    | _ => exact hp.elim⟩
end
end DL
set_option Elab.async false
set_option linter.all false
set_option maxRecDepth 100000
namespace DL
open PySem PySem.Spec L2
/-! ### isinstance of an error that has a dict -/
abbrev rIsD (K : PySem.W.Frag) (cls : Value) (d : Option Addr) (a : Addr) : List V → Hp → VK → Prop := fun xs H Q => ∃ (D dd : Addr) (c : V) (cv : Value) (b : Bool) (fs : List (Str × V)),
  cls = .ref D ∧ d = some dd ∧ ExcC K D ∧ xs = [.ref a, c] ∧ (∀ u, RelV c u → u = cv) ∧ H dd = some (.xd fs) ∧ PySem.W.kitOne K (.ref D) cv = some b ∧ Q (.bl b) H
theorem call_isD {X : Cx} {a : Addr} {oe : Obj} {cls : Value} {d : Option Addr} {pn : List (Addr × Obj)} (hz : Zc cls d oe) (hf : ∃ vs, oe.data = .fields vs) : CallR (X.suite a ((a, oe) :: pn)) (.builtin "isinstance") (rIsD X.K cls d a) := by
  intro pins s σ H xs us Q iv rel h
  obtain ⟨D, dd, c, cv, b, fs, rfl, rfl, E, rfl, hcv, hdd, kit, q⟩ := h
  cases rel with
  | cons rx rr =>
    cases rr with
    | cons rt rr =>
      cases rr
      cases rx
      have ec := hcv _ rt
      subst ec
      obtain ⟨here, _⟩ := iv.pin (a, oe) (List.mem_append.mpr (.inl List.mem_cons_self))
      have ob : ObjOk X.prog X.w H s.heap dd (.xd fs) := iv.hok dd _ hdd
      obtain ⟨mA, hns, hr⟩ := ob
      obtain ⟨od, ho, _⟩ := lookIn_ns hns
      obtain ⟨vs, hv⟩ := hf
      have J : PySem.W.InstAt s.heap a oe D (some od) := ⟨here, hz.1, by unfold PySem.W.notCls; rw [hv] <;> rfl, by rw [hz.2]; exact ho⟩
      have hcl : (PySem.W.clsIn X.K D).isSome = true := by obtain ⟨cd, hc, _⟩ := PySem.W.any_some E.hd; rw [hc]; rfl
      exact PySem.W.kia_one (PySem.W.kitx_exc hcl E.hg E.hk E.hs E.ha E.hn E.ht E.hm) iv.kIn J kit (fun z => nomatch z) fun tk => ⟨.bl b, H, iv.kept (t' := tk) fun _ _ z => z, rfl, q⟩
/-! ### in an except suite: the error in hand -/
section
variable {m : Bool} {pn : List Nat} {X : Cx} {te : TE} {de : dE} {ta : TA} {da : dA} {e e0 : Expr} {es : List Expr} {pos : Pos} {a dd C : Addr} {oe : Obj} {cls : Value} {d : Option Addr} {pins : List (Addr × Obj)} {x : Xn} {v : V} {r : Rf} {f : Str}
def isOb (a : Addr) (p : P) : Prop := match p with
  | .ob b => b = a
  | _ => False
def dXe (cls : Value) (d : Option Addr) (a dd C : Addr) (x : Xn) (f : Str) (de : dE) : dE := fun env Q => de env fun p e => isOb a p ∧ cls = .ref C ∧ x.C = C ∧ d = some dd ∧ f = x.f ∧ Q x.p e
theorem de_xe (T : XfC X.K C) (hno : PySem.W.findIn X.K (.ref C) f = some none) (hz : Zc cls d oe) (hf : ∃ vs, oe.data = .fields vs) (hv : ∀ B, Rp X.K B x.p v) (h : @DE (rfX x dd v r) m (X.suite a ((a, oe) :: pins)) e te de)
    (hb : attributeBase e f X.env (eval e X.env) = eval e X.env := by rfl) : @DE (rfX x dd v r) m (X.suite a ((a, oe) :: pins)) (.Attribute e f pos) (tXf a cls d C f te) (dXe cls d a dd C x f de) := by
  letI : Rf := rfX x dd v r
  refine ⟨pe_xf T hno hz hf h.pe hb, ⟨fun {B H σ env G QD Q} w q k => h.sd.run w q fun p e u B1 H1 G1 q1 w1 r1 s1 u1 => ?_⟩⟩
  obtain ⟨hp, hc, hC, hd, hf, q1⟩ := q1
  subst hf
  cases p with
  | ob b =>
    cases (show b = a from hp)
    refine ⟨r1, hc, dd, [(x.f, v)], v, hd, w1.ex dd _ (w1.rf dd _ upd_same), ?_, k x.p e v B1 H1 G1 q1 w1 (hv B1) s1 u1⟩
    rw [List.lookup, beq_self_eq_true]
  | _ => exact hp.elim
def clsV (p : P) : Option Value := match p with
  | .ob b => some (.ref b)
  | .ty n => some (.type n)
  | _ => none
def isdQ (K : PySem.W.Frag) (cls : Value) (d : Option Addr) (a dd : Addr) (x : Xn) (Q : P → Env → Prop) (as : List AR) (e : Env) : Prop := match as with
  | [.inl p, .inl c] => isOb a p ∧ cls = .ref x.C ∧ d = some dd ∧ ExcC K x.C ∧ ∃ cv k, clsV c = some cv ∧ PySem.W.kitOne K (.ref x.C) cv = some k ∧ Q (.bl k) e
  | _ => False
def dIsd (K : PySem.W.Frag) (cls : Value) (d : Option Addr) (a dd : Addr) (x : Xn) (da : dA) : dE := fun env Q => da env fun as e => isdQ K cls d a dd x Q as e
theorem de_isd (h : PA (X.suite a ((a, oe) :: pins)) (e0 :: es) ta → PE (X.suite a ((a, oe) :: pins)) e (tCB (rIsD X.K cls d a) ta)) (ha : @DA (rfX x dd v r) m (X.suite a ((a, oe) :: pins)) (e0 :: es) ta da) :
    @DE (rfX x dd v r) m (X.suite a ((a, oe) :: pins)) e (tCB (rIsD X.K cls d a) ta) (dIsd X.K cls d a dd x da) := by
  letI : Rf := rfX x dd v r
  refine ⟨h ha.pe, ⟨fun {B H σ env G QD Q} w q k => ha.sd.run w q fun as e vs B1 H1 G1 q1 w1 r1 s1 u1 => ?_⟩⟩
  unfold isdQ at q1
  split at q1
  · rename_i p c
    obtain ⟨hp, hc, hd, E, cv, b, hcv, kit, q1⟩ := q1
    obtain ⟨v1, l1, rfl, z1, v2, l2, rfl, z2, z3⟩ := r1
    cases (show l2 = [] from z3)
    cases p with
    | ob b1 =>
      have z1 : v1 = V.ref a := by rw [← show b1 = a from hp]; exact z1
      subst z1
      refine ⟨x.C, dd, v2, cv, b, [(x.f, v)], hc, hd, E, rfl, fun u hu => ?_, w1.ex dd _ (w1.rf dd _ upd_same), kit, k (.bl b) e (.bl b) B1 H1 G1 q1 w1 rfl s1 u1⟩
      cases c with
      | ob b2 =>
        cases hcv
        cases (show v2 = V.ref b2 from z2)
        exact hu
      | ty n =>
        cases hcv
        cases (show v2 = V.ty n from z2)
        exact hu
      | _ => cases hcv
    | _ => exact hp.elim
  · exact q1.elim
/-! ### the statement -/
theorem dss_pe {R : Rf} {X : Cx} {st : List Stmt} {ts : TS} {ds : dS} (h : @DSs R pn X st ts ds) : PSs X st ts := @DSs.pe R pn X st ts ds h
theorem dss_run {R : Rf} {X : Cx} {K : PySem.W.Frag} {st : List Stmt} {ts : TS} {ds1 ds2 : dS} (h : @DSs R pn X st ts ds1) (hK : X.K = K) (g : ∀ Dd env, ds2 Dd env → ds1 Dd env) : @SndS R pn K ts ds2 := by
  letI := R
  subst hK
  exact ⟨fun w q n r k1 k2 => h.sd.run w (g _ _ q) n r k1 k2⟩
theorem ds_try [rI : Rf] {c : Value} {i : Nat} {tc : (St → XK) → TE} {rd : Env → (P → Prop) → (Xn → Prop) → Prop} {ts : Addr → Value → Option Addr → TS} {dsu : Addr → Value → Option Addr → Xn → Addr → dS} {RD : Xn → Prop} {E : XK} {st : Stmt} {suite : List Stmt}
    (hE : HE X.K RD E) (hp : i ∉ pn) (hc : CX1 X.K tc rd)
    (hps : (∀ (a : Addr) (oe : Obj) (cls : Value) (d : Option Addr) (pins : List (Addr × Obj)), Zc cls d oe → (∃ vs, oe.data = .fields vs) → PSs (X.suite a ((a, oe) :: pins)) suite (ts a cls d)) → PS X st (fun D σ H => tDrop (tc (WE (wAs X.K c i ts (WO E) D))) D σ H))
    (hsu : ∀ (a : Addr) (oe : Obj) (cls : Value) (d : Option Addr) (pins : List (Addr × Obj)) (x : Xn) (dd : Addr) (v : V) (r : Rf), Zc cls d oe → (∃ vs, oe.data = .fields vs) → (∀ B, Rp X.K B x.p v) → @DSs (rfX x dd v r) pn (X.suite a ((a, oe) :: pins)) suite (ts a cls d) (dsu a cls d x dd)) :
    DS pn X st (fun D σ H => tDrop (tc (WE (wAs X.K c i ts (WO E) D))) D σ H) (dTry X.K c i rd (fun a x Dd env => ∀ dd, dsu a (.ref x.C) (some dd) x dd Dd env) RD) :=
  ⟨hps fun a oe cls d pins hz hf => dss_pe (hsu a oe cls d pins ⟨0, "", .non⟩ 0 .non rf0 hz hf (fun _ => rfl)),
   snd_try hE hp hc fun a x dd v r hv _ => dss_run (K := X.K) (hsu a { cls := .ref x.C, dict := some dd, data := .fields #[] } (.ref x.C) (some dd) [] x dd v r ⟨rfl, rfl⟩ ⟨_, rfl⟩ hv) rfl fun Dd env q => q dd⟩
/-- the call that a try holds -/
def tryCall : Stmt → Expr
  | .Try (.Expr e _ :: _) _ _ _ _ => e
  | _ => .Constant .none 0 ⟨0, 0, 0, 0⟩
def callArgs : Expr → List Expr
  | .Call _ es _ _ => es
  | _ => []
def callFn : Expr → Expr
  | .Call g _ _ _ => g
  | e => e
section
variable [rI : Rf] {c : Value} {i : Nat} {ts : Addr → Value → Option Addr → TS} {dsu : Addr → Value → Option Addr → Xn → Addr → dS} {RD : Xn → Prop} {E : XK} {st : Stmt} {suite : List Stmt} {fs : FSp} {fx : FXp}
abbrev Suite (X : Cx) (suite : List Stmt) (ts : Addr → Value → Option Addr → TS) : Prop := ∀ (a : Addr) (oe : Obj) (cls : Value) (d : Option Addr) (pins : List (Addr × Obj)), Zc cls d oe → (∃ vs, oe.data = .fields vs) → PSs (X.suite a ((a, oe) :: pins)) suite (ts a cls d)
abbrev SuiteD (pn : List Nat) (X : Cx) (suite : List Stmt) (ts : Addr → Value → Option Addr → TS) (dsu : Addr → Value → Option Addr → Xn → Addr → dS) : Prop := ∀ (a : Addr) (oe : Obj) (cls : Value) (d : Option Addr) (pins : List (Addr × Obj)) (x : Xn) (dd : Addr) (v : V) (r : Rf), Zc cls d oe → (∃ vs, oe.data = .fields vs) → (∀ B, Rp X.K B x.p v) → @DSs (rfX x dd v r) pn (X.suite a ((a, oe) :: pins)) suite (ts a cls d) (dsu a cls d x dd)
theorem ds_tryC (hE : HE X.K RD E) (hp : i ∉ pn) (ha : DA true X (callArgs (tryCall st)) ta da) (hps : Suite X suite ts → PS X st (fun D σ H => tDrop (tMakeS C (spX X.K fs fx) (WE (wAs X.K c i ts (WO E) D)) ta) D σ H)) (hsu : SuiteD pn X suite ts dsu) :
    DS pn X st (fun D σ H => tDrop (tMakeS C (spX X.K fs fx) (WE (wAs X.K c i ts (WO E) D)) ta) D σ H) (dTry X.K c i (cxMake C fs fx da) (fun a x Dd env => ∀ dd, dsu a (.ref x.C) (some dd) x dd Dd env) RD) := ds_try hE hp (cx_make ha.sd) hps hsu
theorem ds_tryF (hE : HE X.K RD E) (hp : i ∉ pn) (ha : DA true X (callArgs (tryCall st)) ta da) (hps : Suite X suite ts → PS X st (fun D σ H => tDrop (tCallS (spX X.K fs fx) (WE (wAs X.K c i ts (WO E) D)) ta) D σ H)) (hsu : SuiteD pn X suite ts dsu) :
    DS pn X st (fun D σ H => tDrop (tCallS (spX X.K fs fx) (WE (wAs X.K c i ts (WO E) D)) ta) D σ H) (dTry X.K c i (cxCall fs fx da) (fun a x Dd env => ∀ dd, dsu a (.ref x.C) (some dd) x dd Dd env) RD) := ds_try hE hp (cx_call ha.sd) hps hsu
theorem ds_tryO (hE : HE X.K RD E) (hp : i ∉ pn) (hf : DE true X (callFn (tryCall st)) te de) (ha : DA true X (callArgs (tryCall st)) ta da)
    (hps : Suite X suite ts → PS X st (fun D σ H => tDrop (tCallOS C (fun vs H Q E => spX X.K fs fx (vs ++ []) H Q E) (WE (wAs X.K c i ts (WO E) D)) te ta) D σ H)) (hsu : SuiteD pn X suite ts dsu) :
    DS pn X st (fun D σ H => tDrop (tCallOS C (fun vs H Q E => spX X.K fs fx (vs ++ []) H Q E) (WE (wAs X.K c i ts (WO E) D)) te ta) D σ H) (dTry X.K c i (cxCallO C fs fx de da) (fun a x Dd env => ∀ dd, dsu a (.ref x.C) (some dd) x dd Dd env) RD) :=
  ds_try (tc := fun E' => tCallOS C (fun vs H Q E => spX X.K fs fx (vs ++ []) H Q E) E' te ta) hE hp (cx_callO hf.sd ha.sd) hps hsu
end
end
/-! ### the classes of errors, as a raise and a suite have them -/
structure ErrT (K : PySem.W.Frag) (mg : Str → Option Value) (n : Str) (C fI : Addr) (f : Str) : Prop where
  mg : mg n = some (.ref C)
  ox : OexC K C
  no : PySem.W.findIn K (.ref C) f = some none
  ini : PySem.W.findIn K (.ref C) "__init__" = some (some (.ref fI))
  fn : PySem.W.typeIn K (.ref fI) = some (.type "function")
  xf : XfC K C
  ec : ExcC K C
structure CalleeE (Pg : Program) (w : World) (K : PySem.W.Frag) (mg : Str → Option Value) (base : Heap) (k : Nat) (n : Str) (C fI : Addr) (fd : FuncData) (ps : List Str) (f : Str) : Prop where
  t : ErrT K mg n C fI f
  ok : FnOk Pg w K mg base CX0 k fI fd ps (spErr K C f)
  b : Binds K fd ps []
structure CalleeFX (Pg : Program) (w : World) (K : PySem.W.Frag) (mg : Str → Option Value) (base : Heap) (k : Nat) (f : Addr) (fd : FuncData) (ps : List Str) (fs : FSp) (fx : FXp) : Prop where
  ok : FnOk Pg w K mg base (L2.CX Pg w) k f fd ps (spX K fs fx)
theorem err_init {K : PySem.W.Frag} {C : Addr} {f : Str} {σ : St} {vs : List V} {H : Hp} {Q : VK} {E : XK} {D : Ends} (h : spErr K C f vs H Q E) (hs : σ = vs.map some) (hn : ∀ H', Q .non H' → D.nx σ H') : tOst K f (tVar 0) (tVar 1) D σ H := by
  obtain ⟨x, v, rfl, T, hf, hx, q⟩ := h
  subst hs
  exact ⟨v, rfl, .ref x, rfl, x, C, rfl, T, hf, .inl ⟨hx, fun dx hd ne => hn _ (q dx hd ne)⟩⟩
theorem kit_ref {K : PySem.W.Frag} {A C : Addr} {b : Bool} (hd : PySem.W.hasDictIn K C = true) (ht : PySem.W.typeIn K (.ref C) = some (.type "type")) (hs : PySem.W.subIn K (.ref A) (.ref C) = some b) (self : PySem.W.subIn K (.ref A) (.ref A) = some true) : PySem.W.kitOne K (.ref A) (.ref C) = some b := by
  by_cases h : A = C
  · subst h
    rw [hs] at self
    cases self
    exact kit_self K A
  · have ne : ((Value.ref A : Value) == .ref C) = false := Bool.eq_false_iff.mpr fun q => h (Value.ref.inj (beq_iff_eq.mp q))
    unfold PySem.W.kitOne
    rw [ne, if_neg Bool.false_ne_true]
    obtain ⟨cd, hc, _⟩ := PySem.W.any_some hd
    show (if ((PySem.W.clsIn K C).isSome && PySem.W.typeIn K (.ref C) == some (.type "type")) = true then PySem.W.subIn K (.ref A) (.ref C) else none) = some b
    have e2 : ((PySem.W.clsIn K C).isSome && PySem.W.typeIn K (.ref C) == some (.type "type")) = true := by rw [hc, ht] <;> rfl
    rw [if_pos e2, hs]
theorem kit_typ {K : PySem.W.Frag} {A : Addr} {T : String} {b : Bool} (hm : PySem.W.kitMeta T = true) (hs : PySem.W.subIn K (.ref A) (.type T) = some b) : PySem.W.kitOne K (.ref A) (.type T) = some b := by
  unfold PySem.W.kitOne
  rw [show ((Value.ref A : Value) == .type T) = false from rfl, if_neg Bool.false_ne_true]
  show (if PySem.W.kitMeta T = true then PySem.W.subIn K (.ref A) (.type T) else none) = some b
  rw [if_pos hm, hs]
/-! ### range(a, b, c) -/
section
variable [Rf] {m : Bool} {K : PySem.W.Frag} {ta : TA} {da : dA} {X : Cx}
def rngC (lo c : Int) (n : Nat) : List P := (List.range n).map fun (i : Nat) => P.int (lo + (i : Int) * c)
theorem rngC_len (lo c : Int) (n : Nat) : (rngC lo c n).length = n := by unfold rngC; simp
theorem rngC_get {lo c : Int} {n i : Nat} {p : P} (h : (rngC lo c n)[i]? = some p) : i < n ∧ p = .int (lo + (i : Int) * c) := by
  unfold rngC at h
  rw [List.getElem?_map] at h
  by_cases hi : i < n
  · rw [List.getElem?_range hi] at h
    cases h
    exact ⟨hi, rfl⟩
  · rw [List.getElem?_eq_none (by simpa using hi)] at h; cases h
theorem itok_rngC {B0 : Hp} {lo c : Int} {n : Nat} : ItOk K (Itc lo c n) B0 (rngC lo c n) := fun B H i e1 e2 _ => by
  refine ⟨fun p hp => ?_, fun hge => by rw [rngC_len] at hge; exact hge⟩
  obtain ⟨hi, rfl⟩ := rngC_get hp
  refine ⟨hi, fun x H2 hx => ?_⟩
  obtain ⟨rfl, rfl⟩ := hx
  exact ⟨B, .refl e2, rfl⟩
def rng3Q (as : List AR) (f : List P → Prop) : Prop := match as with
  | [.inl (.int i), .inl (.int j), .inl (.int c)] => ∃ n, RgC i j c n ∧ f (rngC i c n)
  | _ => False
def diR3 (da : dA) : dI := fun env Q => da env fun as e => rng3Q as fun ps => Q ps e
theorem snd_ir3 (h : SndA m K ta da) : SndI m K (iRng3 ta) (diR3 da) := ⟨fun {B H σ env G QD R} w q k => h.run w q fun as e vs B1 H1 G1 q1 w1 r1 s1 u1 => by
  change rng3Q as fun ps => QD ps e at q1
  unfold rng3Q at q1
  split at q1
  · rename_i i j c
    obtain ⟨v, l, rfl, z1, u, l2, rfl, z2, y, l3, rfl, z3, z4⟩ := r1
    cases (show l3 = [] from z4)
    cases (show v = V.int i from z1)
    cases (show u = V.int j from z2)
    cases (show y = V.int c from z3)
    obtain ⟨n, hn, q1⟩ := q1
    exact ⟨i, j, c, n, rfl, hn, k _ e B1 H1 G1 _ q1 w1 s1 u1 itok_rngC⟩
  · exact q1.elim⟩
theorem di_rng3 {tg c0 : Expr} {e0 e1 e2 : Expr} (h : PA X [e0, e1, e2] ta → PI X tg c0 (iRng3 ta)) (ha : DA m X [e0, e1, e2] ta da) : DI m X tg c0 (iRng3 ta) (diR3 da) := ⟨h ha.pe, snd_ir3 ha.sd⟩
end
end DL
set_option Elab.async false
set_option linter.all false
set_option maxRecDepth 100000
/-! properties; try: name = a call .. except; an own operator in a try -/
namespace DL
open PySem PySem.Spec L2
section
variable [Rf] {m : Bool} {K : PySem.W.Frag} {te : TE} {de : dE} {X : Cx} {o : Expr} {f : Str} {pos : Pos}
/-! ### e.f, f a property -/
def dProp (C : Addr) (fs : FSp) (de : dE) : dE := fun env Q => de env fun p e => match p with
  | .ins C' fl => C' = C ∧ pcall fs [.ins C' fl] fun z => Q z e
  | _ => False
theorem snd_prop {C : Addr} {fs : FSp} {E : XK} (h : SndE m K te de) : SndE m K (tProp C (spD K fs) [] E te) (dProp C fs de) := ⟨fun {B H σ env G QD Q} w q k => h.run w q fun p e v B1 H1 G1 q1 w1 r1 s1 u1 => by
  cases p with
  | ins C' fl =>
    obtain ⟨rfl, q1⟩ := q1
    obtain ⟨a, dx, fv, rfl, h1, h2⟩ := id r1
    exact ⟨a, dx, fv, rfl, w1.ex a _ h1, callPP (ps := [.ins C' fl]) w1.ex ⟨_, [], rfl, r1, rfl⟩ q1 fun z v B' H' qz rz gg => k z e v B' H' G1 qz (w1.gr gg) rz (s1.trans gg.stp) (u1.trans (.gr gg))⟩
  | _ => exact q1.elim⟩
structure CalleeT (Pg : Program) (w : World) (K : PySem.W.Frag) (mg : Str → Option Value) (base : Heap) (k : Nat) (C : Addr) (nm : Str) (f : Addr) (fd : FuncData) (ps : List Str) (fs : FSp) : Prop where
  ok : FnOk Pg w K mg base CX0 k f fd ps (spD K fs)
  c : Cls K C
  p : ∃ p, PropOf K C nm p f
  b : Binds K fd ps []
theorem de_prop {C : Addr} {fs : FSp} {E : XK} (h : PE X o te → PE X (.Attribute o f pos) (tProp C (spD X.K fs) [] E te)) (ho : DE m X o te de) : DE m X (.Attribute o f pos) (tProp C (spD X.K fs) [] E te) (dProp C fs de) := ⟨h ho.pe, snd_prop ho.sd⟩
end
/-! ### an own operator, an int on the right, in a try -/
section
variable {X : Cx} {CT : CXT} {k : Nat} {C g : Addr} {sp : Sp} {Eσ : St → XK} {a b : Expr} {ta tb : TE} {pos : Pos} {op : Operator}
theorem opI_at {pins : List (Addr × Obj)} {σ : St} {H : Hp} {s : Shared} {Q : VK} {x y : V} {v u : Value} (F : OwnF X.K C g (PySem.dunder op.info.2)) (J : OwnI X.K C (PySem.dunder op.info.2) (PySem.dunderR op.info.2)) (hc : PySem.W.selfFirst X.K C = true)
    (ok : FnR X.prog X.w X.K X.mg X.base CT k g sp) (room : Room k X.A) (pass : PassesAt CT X σ (Eσ σ)) (I : Inv X pins σ H s) (rx : RelV x v) (ry : RelV y u) (h : ∃ a dx vs n, x = .ref a ∧ y = .int n ∧ H a = some (.ins C dx vs) ∧ sp [x, y] H Q (Eσ σ)) :
    wpAny (model X.prog X.w) X.A (binaryOp op v u) (EP X pins σ Q) X.xe s := by
  obtain ⟨a, dx, vs, n, rfl, rfl, ha, q⟩ := h
  cases (show v = Value.ref a from rx)
  obtain ⟨t, rfl⟩ := ry
  obtain ⟨mA, O, _⟩ := ins_get I.hok ha
  obtain ⟨od, IA, _⟩ := O.look
  obtain ⟨m, hF⟩ := I.fr
  obtain ⟨fo, h1⟩ := J.h1
  obtain ⟨ro, h2⟩ := J.h2
  refine PySem.W.ksp_binT (op := op) (T := "int") hF I.ok.mod.kin IA rfl hc F.at_ F.fn J.hr (.inl rfl) h1 h2 J.hs ?_
  refine wpAny_mono (wpAny_call (raw_at (us := [.ref a, .int n t]) (vs := [.ref a, .int n]) ok room pass I (.cons rfl (.cons ⟨t, rfl⟩ .nil)) q)) (fun w s' z => ?_) fun _ _ x => x
  obtain ⟨z', H', I', rz, qz⟩ := z
  exact SlX.cmpback rz ⟨z', H', I', rz, qz⟩
def tOpIS (C : Addr) (sp : Sp) (Eσ : St → XK) (te tb : TE) : TE := fun σ H Q => te σ H fun x H1 => tb σ H1 fun y H2 => ∃ a dx vs n, x = V.ref a ∧ y = V.int n ∧ H2 a = some (.ins C dx vs) ∧ sp [x, y] H2 Q (Eσ σ)
theorem pe_opIAt (F : OwnF X.K C g (PySem.dunder op.info.2)) (J : OwnI X.K C (PySem.dunder op.info.2) (PySem.dunderR op.info.2)) (hc : PySem.W.selfFirst X.K C = true)
    (ok : FnR X.prog X.w X.K X.mg X.base CT k g sp) (room : Room k X.A) (pass : ∀ σ, PassesAt CT X σ (Eσ σ)) (ha : PE X a ta) (hb : PE X b tb) : PE X (.BinOp a op b pos) (tOpIS C sp Eσ ta tb) := by
  refine ⟨fun pins s σ H Q I h => ?_⟩
  have h' : tOp (fun x y H2 Q => ∃ a dx vs n, x = V.ref a ∧ y = V.int n ∧ H2 a = some (.ins C dx vs) ∧ sp [x, y] H2 Q (Eσ σ)) ta tb σ H Q := h
  exact wpAny_BinOp (binT ha hb I h' fun v u s2 x y H2 I2 rx ry q => opI_at F J hc ok room (pass σ) I2 rx ry q)
end
section
variable [Rf] {pn : List Nat} {K : PySem.W.Frag} {te tb : TE} {de db : dE} {X : Cx} {fs : FSp} {fx : FXp} {C : Addr}
def cxoQ (C : Addr) (fs : FSp) (fx : FXp) (QN : P → Prop) (QX : Xn → Prop) (p q : P) : Prop := match p, q with
  | .ins C' fl, .int n => C' = C ∧ (pcall fs [.ins C fl, .int n] QN ∨ fx [.sh (.ins C fl), .sh (.int n)] QX)
  | _, _ => False
def cxOpI (C : Addr) (fs : FSp) (fx : FXp) (de db : dE) : Env → (P → Prop) → (Xn → Prop) → Prop := fun env QN QX => de env fun p e => db e fun q _ => cxoQ C fs fx QN QX p q
theorem cx_opI (h : SndE true K te de) (g : SndE true K tb db) : CX1 K (fun E => tOpIS C (fun vs H Q E => spX K fs fx (vs ++ []) H Q E) E te tb) (cxOpI C fs fx de db) := ⟨fun {B H σ env G QN QX Q E} w q kn kx => h.run w q fun p e v B1 H1 G1 q1 w1 r1 s1 u1 => by
  obtain ⟨_, _, g1⟩ := u1 rfl
  refine g.run w1 q1 fun q e2 u B2 H2 G2 q2 w2 r2 s2 u2 => ?_
  obtain ⟨_, _, g2⟩ := u2 rfl
  have g12 := g1.trans g2
  unfold cxoQ at q2
  split at q2
  · rename_i C' fl n
    obtain ⟨rfl, q2⟩ := q2
    have r1' := Rp.mono s2.ex _ r1
    obtain ⟨a, dx, fv, rfl, h1, h2⟩ := id r1'
    cases (show u = V.int n from r2)
    refine ⟨a, dx, fv, n, rfl, rfl, w2.ex a _ h1, ?_⟩
    show spX K fs fx ([V.ref a, V.int n] ++ []) H2 Q (E σ)
    rw [List.append_nil]
    have rr : RpA K B2 [P.ins C' fl, .int n] [V.ref a, .int n] := ⟨_, _, rfl, r1', _, [], rfl, rfl, rfl⟩
    rcases q2 with q2 | q2
    · exact .inl (callPP (ps := [.ins C' fl, .int n]) w2.ex rr q2 fun z v B' H' qz rz gg => kn z v B' H' qz rz (g12.trans gg))
    · exact .inr ⟨H2, _, _, QX, plain_wd (Ex.refl H2) (RpA.mono w2.ex _ rr), q2, fun x dd v B3 H3 hx e1 e2 hn hd rp => kx x dd v B3 H3 hx (g12.h.trans e1) e2 hn hd rp⟩
  · exact q2.elim⟩
end
/-! ### try: name = a call .. except C as n: .. -/
section
variable [rI : Rf] {pn : List Nat} {K : PySem.W.Frag} {te : TE} {de : dE} {ta : TA} {da : dA} {X : Cx} {fs : FSp} {fx : FXp} {C : Addr}
def dTryA (K : PySem.W.Frag) (c : Value) (i j : Nat) (rd : Env → (P → Prop) → (Xn → Prop) → Prop) (dsu : Addr → Xn → dS) (RD : Xn → Prop) : dS := fun Dd env => rd env (fun p => inE j env = true ∧ Dd.nx (env.set j (some (.sh p)))) (tryX K c i dsu RD Dd env)
theorem snd_tryA {c : Value} {i j : Nat} {tc : (St → XK) → TE} {rd : Env → (P → Prop) → (Xn → Prop) → Prop} {ts : Addr → Value → Option Addr → TS} {dsu : Addr → Xn → dS} {RD : Xn → Prop} {E : XK} (hE : HE K RD E) (hp : i ∉ pn) (hpj : j ∉ pn) (hc : CX1 K tc rd)
    (hsu : ∀ (a : Addr) (x : Xn) (dd : Addr) (v : V) (r : Rf), (∀ B, Rp K B x.p v) → r.R dd = none → @SndS (rfX x dd v r) pn K (ts a (.ref x.C) (some dd)) (dsu a x)) :
    SndS pn K (fun D σ H => tAsg (tc (WE (wAs K c i ts (WO E) D))) (gName j) D σ H) (dTryA K c i j rd dsu RD) := ⟨fun {B H σ env G Dd D} w q n r k1 k2 => by
  refine hc.run w q (fun z v B' H' qz rz gg => ?_) fun x dd v B' H' qx e1 e2 hn hd rp => ?_
  · obtain ⟨hj, qz⟩ := qz
    exact n _ _ B' H' _ qz ((w.gr gg).putS (inE_lt hj) rz) (gg.stp.trans (stp_put fun _ h => absurd h List.not_mem_nil)) (Pin.set hpj)
  obtain ⟨hat, ⟨hm, hi, hs⟩ | ⟨hm, hr⟩⟩ := qx
  · refine ⟨true, hm, fun _ a ha => ?_, fun h => by cases h⟩
    have hH : H dd = none := e1.back hn
    have hB : B dd = none := w.ex.back hH
    have hR : Rf.R dd = none := w.rf.back hB
    have g : Gr B H (upd B dd (.xd [(x.f, v)])) H' := ⟨fun b o h => by rw [upd_ne (ne_of_none h hB)]; exact h, e1.trans e2, fun b o h => by
      by_cases e : b = dd
      · subst e; rw [upd_same] at h; cases h; exact hd
      · rw [upd_ne e] at h; exact e2 b o (e1 b o (w.ex b o h)), fun b o h hb => by rw [upd_ne (ne_of_none h hH)]; exact hb⟩
    have w2 := w.gr g
    have hi' := inE_lt hi
    have s4 : Stp B H G (upd B dd (.xd [(x.f, v)])) H' (fun j => if j = i then [] else G j) := g.stp.trans (stp_put fun _ h => absurd h List.not_mem_nil)
    have p4 : Pin pn σ (σ.set i (some (V.ref a))) := Pin.set hp
    have up : Ex Rf.R (upd Rf.R dd (.xd [(x.f, v)])) := fun b o h => by rw [upd_ne (ne_of_none h hR)]; exact h
    have w4 := w2.putS (p := .ob a) (v := V.ref a) hi' rfl
    have up2 : Ex (upd Rf.R dd (.xd [(x.f, v)])) (upd B dd (.xd [(x.f, v)])) := fun b o h => by
      by_cases e : b = dd
      · subst e
        rw [upd_same] at h ⊢; exact h
      · rw [upd_ne e] at h ⊢; exact w.rf b o h
    exact run_w (R1 := rI) (R2 := rfX x dd v rI) up (hsu a x dd v rI (fun B => atom_rp hat rp B) hR) w4.toWd0 up2 (hs a) (nx_none hp (n.at s4 p4)) (r.at s4 p4) (nx_none hp (k1.at s4 p4)) (nx_none hp (k2.at s4 p4))
  · exact ⟨false, hm, fun h => (by cases h), fun _ => hE x dd v B' H' hr (w.rf.trans (w.ex.trans e1)) e2 hn hd rp⟩⟩
theorem ds_tryA {c : Value} {i j : Nat} {tc : (St → XK) → TE} {rd : Env → (P → Prop) → (Xn → Prop) → Prop} {ts : Addr → Value → Option Addr → TS} {dsu : Addr → Value → Option Addr → Xn → Addr → dS} {RD : Xn → Prop} {E : XK} {st : Stmt} {suite : List Stmt}
    (hE : HE X.K RD E) (hp : i ∉ pn) (hpj : j ∉ pn) (hc : CX1 X.K tc rd)
    (hps : Suite X suite ts → PS X st (fun D σ H => tAsg (tc (WE (wAs X.K c i ts (WO E) D))) (gName j) D σ H))
    (hsu : SuiteD pn X suite ts dsu) :
    DS pn X st (fun D σ H => tAsg (tc (WE (wAs X.K c i ts (WO E) D))) (gName j) D σ H) (dTryA X.K c i j rd (fun a x Dd env => ∀ dd, dsu a (.ref x.C) (some dd) x dd Dd env) RD) :=
  ⟨hps fun a oe cls d pins hz hf => dss_pe (hsu a oe cls d pins ⟨0, "", .non⟩ 0 .non rf0 hz hf (fun _ => rfl)),
   snd_tryA hE hp hpj hc fun a x dd v r hv _ => dss_run (K := X.K) (hsu a { cls := .ref x.C, dict := some dd, data := .fields #[] } (.ref x.C) (some dd) [] x dd v r ⟨rfl, rfl⟩ ⟨_, rfl⟩ hv) rfl fun Dd env q => q dd⟩
/-- the right side of the assignment that a try holds -/
def tryVal : Stmt → Expr
  | .Try (.Assign _ e _ :: _) _ _ _ _ => e
  | _ => .Constant .none 0 ⟨0, 0, 0, 0⟩
def binL : Expr → Expr
  | .BinOp a _ _ _ => a
  | e => e
def binR : Expr → Expr
  | .BinOp _ _ b _ => b
  | e => e
section
variable {tb : TE} {db : dE} {c : Value} {i j : Nat} {ts : Addr → Value → Option Addr → TS} {dsu : Addr → Value → Option Addr → Xn → Addr → dS} {RD : Xn → Prop} {E : XK} {st : Stmt} {suite : List Stmt}
theorem ds_tryAC (hE : HE X.K RD E) (hp : i ∉ pn) (hpj : j ∉ pn) (ha : DA true X (callArgs (tryVal st)) ta da) (hps : Suite X suite ts → PS X st (fun D σ H => tAsg (tMakeS C (spX X.K fs fx) (WE (wAs X.K c i ts (WO E) D)) ta) (gName j) D σ H)) (hsu : SuiteD pn X suite ts dsu) :
    DS pn X st (fun D σ H => tAsg (tMakeS C (spX X.K fs fx) (WE (wAs X.K c i ts (WO E) D)) ta) (gName j) D σ H) (dTryA X.K c i j (cxMake C fs fx da) (fun a x Dd env => ∀ dd, dsu a (.ref x.C) (some dd) x dd Dd env) RD) := ds_tryA hE hp hpj (cx_make ha.sd) hps hsu
theorem ds_tryAP (hE : HE X.K RD E) (hp : i ∉ pn) (hpj : j ∉ pn) (hl : DE true X (binL (tryVal st)) te de) (hr : DE true X (binR (tryVal st)) tb db)
    (hps : Suite X suite ts → PS X st (fun D σ H => tAsg (tOpIS C (fun vs H Q E => spX X.K fs fx (vs ++ []) H Q E) (WE (wAs X.K c i ts (WO E) D)) te tb) (gName j) D σ H)) (hsu : SuiteD pn X suite ts dsu) :
    DS pn X st (fun D σ H => tAsg (tOpIS C (fun vs H Q E => spX X.K fs fx (vs ++ []) H Q E) (WE (wAs X.K c i ts (WO E) D)) te tb) (gName j) D σ H) (dTryA X.K c i j (cxOpI C fs fx de db) (fun a x Dd env => ∀ dd, dsu a (.ref x.C) (some dd) x dd Dd env) RD) :=
  ds_tryA (tc := fun E' => tOpIS C (fun vs H Q E => spX X.K fs fx (vs ++ []) H Q E) E' te tb) hE hp hpj (cx_opI hl.sd hr.sd) hps hsu
end
end
end DL
set_option Elab.async false
set_option linter.all false
set_option maxRecDepth 100000
namespace DL
open PySem PySem.Spec PyProof.Rows L2
/-! ### defs that may be called while an error is handled -/
abbrev RoomW := L2H.RoomH
theorem roomW_of {k : Nat} {A : Around} {h : Option Value} (r : Room k A) : RoomW k (A.mark h) := ⟨r.dp, r.un⟩
theorem _root_.L2H.RoomH.units {k : Nat} {A : Around} (r : RoomW k A) : A.units + 64 < cLine := by have := r.un; omega
theorem roomW_units {k : Nat} {A : Around} (r : RoomW k A) : A.units + 64 < cLine := by have := r.un; omega
/-- as FnOk, wherever it is called from; nothing leaves by an error -/
structure FnW (Pg : Program) (w : World) (K : PySem.W.Frag) (mg : Str → Option Value) (base : Heap) (k : Nat) (f : Addr) (fd : FuncData) (prm : List Str) (sp : Sp) : Prop where
  many : ∀ vs H Q E, sp vs H Q E → vs.length = prm.length
  go : ∀ {A : Around} {outer : List PySem.Env} {s : Shared} {H : Hp} {args : Args} {us : List Value} {vs : List V} {Q : VK} {E : XK},
    RoomW k A → Env0 Pg w K mg base A outer s H → BindsTo s fd args (prm.zip us) → Vals vs us → sp vs H Q E → codeAny (model Pg w) A (.call (.ref f) args) (CR CX0 outer Pg w H s Q E) s
/-- the context of its body -/
abbrev cxW (Pg : Program) (w : World) (K : PySem.W.Frag) (mg : Str → Option Value) (base : Heap) (N : List Str) (qual : Str) (sc : Scope) (f : Addr) (cd : Value) (A : Around) (outer : List PySem.Env) (s : Shared) (H : Hp) (E : XK) : Cx :=
  { cxOf CX0 Pg w K mg base N qual sc f cd A outer s H E with calm := false, xe := fun _ _ => False }
section
variable {Pg : Program} {w : World} {K : PySem.W.Frag} {mg : Str → Option Value} {base : Heap} {N prm : List Str} {qual : Str} {sc : Scope} {f : Addr} {cd : Value} {A : Around} {outer : List PySem.Env} {s s1 : Shared} {H H0 : Hp} {E : XK}
theorem inv_cool {σ : L2.St} {h : Option Value} (I : Inv (cxOf CX0 Pg w K mg base N qual sc f cd { A with handled := h } outer s H0 E) [] σ H s1) : Inv (cxW Pg w K mg base N qual sc f cd A outer s H0 E) [] σ H s1 :=
  ⟨⟨I.ok.mod, I.ok.kind, I.ok.glob, I.ok.blt, I.ok.above, I.ok.inj, I.ok.has, I.ok.cab, (fun z => nomatch z), I.ok.frames, I.ok.stk, I.ok.exf, I.ok.bs, I.ok.bsz, I.ok.noex, I.ok.exfs, I.ok.funs, I.ok.frf⟩,
    I.os, I.bare, I.base, I.loc, I.cell, I.free, I.freeC, I.pin, I.hok, I.len⟩
theorem Fun.okW {x : Str} {st : Stmt} {fd : FuncData} {k : Nat} {fs : FSp} (pn : List Nat) (F : L2.Fun K x qual st f fd) (S : FnScope N prm (defScope st)) (len : ∀ ds QD, fs ds QD → ds.length = prm.length ∧ lentOk pn 0 ds = true)
    (hbody : ∀ (cdv : Value) (A : Around) (outer : List PySem.Env) (s : Shared) (H : Hp) (E : XK), RoomW k (A.deeper (envOfC qual (defScope st) s.heap.objs.size f cdv)) →
      ∃ ts dS', DSs pn (cxW Pg w K mg base N qual (defScope st) f cdv A outer s H E) (defBody st) ts dS' ∧ ∀ ds QD, fs ds QD →
        dS' { nx := fun env => pn.all (has env) = true ∧ QD (.sh .non) (back pn env 0 ds), rt := fun d env => pn.all (has env) = true ∧ QD d (back pn env 0 ds) } (startE N ds)) :
    FnW Pg w K mg base (k + 1) f fd prm (spD K fs) := by
  have many : ∀ vs H Q E, spD K fs vs H Q E → vs.length = prm.length := fun vs H Q E ⟨B, ds, G, QD, wd, h, _⟩ => by
    have e := wd.len
    rw [List.length_map, List.length_map] at e
    rw [← e]
    exact (len ds QD h).1
  refine ⟨many, fun {A outer s H args us vs Q E} room e0 hb rel hsp => ?_⟩
  obtain ⟨oc, od, kV, doc, pm, an, cdv, ct, osl, rfl, lk, hcd⟩ := F.ex
  have nl := many _ _ _ _ hsp
  have kx : K.In s.heap := e0.mod.kin.keeps fun b o z => (e0.bs b o z).1
  have lim : s.heap.NoLimit := e0.mod.nolimit.keeps fun b o z => (e0.bs b o z).1
  have kinds : ∀ y ∈ prm.zip us, (defScope st).names.lookup y.1 = some .local ∨ ((defScope st).names.lookup y.1 = some .cell ∧ ((cellsFrom (s.heap.objs.size + 1) (defScope st).names []).lookup y.1).isSome = true) := by
    rintro ⟨n, v⟩ hy
    rcases S.par n (List.of_mem_zip hy).1 with z | z
    · left; exact z
    · right; exact ⟨z, PySem.W.cellsFrom_some _ _ _ (.inl z)⟩
  refine codeAny_call_function room.depth (kx _ _ lk) rfl S.co S.gen rfl (PySem.W.codeRec_of kx hcd) (hb _ _ _ _ ?_)
  refine wpAny_newFunctionEnv_cells S.kind kinds fun env he s1 xs => ?_
  subst he
  refine ⟨lim.keeps xs.toInCall.keep, codeAny_func ?_⟩
  obtain ⟨ts, dS', hd, run⟩ := hbody cdv A outer s H E (room.deeper _)
  have I0 : Inv (cxOf CX0 Pg w K mg base N qual (defScope st) f cdv { A with handled := none } outer s H E) [] (L2.start N vs) H s1 :=
    inv_start S rfl ⟨e0.frames, e0.mod, e0.bs, e0.bsz, e0.funs, e0.frf, e0.hok, e0.bare⟩ nl rel xs
  have I := inv_cool (A := A) I0
  obtain ⟨B, ds, G, QD, wd, h, q⟩ := hsp
  have hl := (len ds QD h).2
  have body : ts { nx := fun _ H' => Q .non H', rt := Q } (L2.start N vs) H := by
    refine hd.sd.run (D := { nx := fun _ H' => Q .non H', rt := Q }) (Wd.start (N := N) wd (rf0_ex B)) (run ds QD h) ?_ ?_ (fun _ _ _ _ _ h => h.elim) (fun _ _ _ _ _ h => h.elim)
    · intro env' σ' B' H' G' hq wq sq pq
      have wb := Wd.back wd sq.ex wq pq hl hq.1
      refine q _ _ .non [] B' H' _ hq.2 wb ⟨⟨rfl, rfl⟩, List.nodup_nil, fun _ h => absurd h List.not_mem_nil, fun _ h => absurd h List.not_mem_nil, fun _ h => absurd h List.not_mem_nil⟩ (sq.cut fun i a ha => ?_)
      change a ∈ (if pn.contains i ∧ i < ds.length then G' i else []) at ha
      split at ha
      · exact ha
      · cases ha
    · intro d env' σ' v F B' H' G' hq wq oq sq pq
      have wb := Wd.back wd sq.ex wq pq hl hq.1
      refine q _ _ v F B' H' _ hq.2 wb ⟨oq.rp, oq.nd, oq.nb, oq.nw, fun a ha i hi => ?_⟩ (sq.cut fun i a ha => ?_)
      · change a ∈ (if pn.contains i ∧ i < ds.length then G' i else []) at hi
        split at hi
        · exact oq.ap a ha i hi
        · cases hi
      · change a ∈ (if pn.contains i ∧ i < ds.length then G' i else []) at ha
        split at ha
        · exact ha
        · cases ha
  have over : ∀ {σ' : L2.St} {H' : Hp} {v : V} {u : Value} {s' : Shared}, Inv (cxW Pg w K mg base N qual (defScope st) f cdv A outer s H E) [] σ' H' s' → RelV v u → Q v H' → CE outer Pg w H s Q u s' :=
    fun J rv qv => ⟨_, _, J.os, J.bare, J.base, J.hok, rv, qv⟩
  refine wpAny_mono (hd.pe.run [] s1 _ H _ I body) (fun fl s' hs => ?_) fun e s' hs => hs.elim
  cases fl with
  | ret u => obtain ⟨v, σ', H', J, rv, qv⟩ := hs; exact over J rv qv
  | next => obtain ⟨σ', H', J, qv⟩ := hs; exact over (v := .non) (u := .none) J rfl qv
  | brk => obtain ⟨_, _, _, z⟩ := hs; exact z.elim
  | cont => obtain ⟨_, _, _, z⟩ := hs; exact z.elim
end
structure CalleeW (Pg : Program) (w : World) (K : PySem.W.Frag) (mg : Str → Option Value) (base : Heap) (k : Nat) (x : Str) (f : Addr) (fd : FuncData) (ps : List Str) (fs : FSp) : Prop where
  ok : FnW Pg w K mg base k f fd ps (spD K fs)
  g : mg x = some (.ref f)
  kp : PySem.W.keepIn K (.ref f) = true
  b : Binds K fd ps []
section
variable {X : Cx} {k : Nat} {f : Addr} {fd : FuncData} {prm : List Str} {sp : Sp} {E : XK} {x : Str} {p1 p2 : Pos} {a0 : Expr} {as0 : List Expr} {ta : TA}
theorem go_w {pins : List (Addr × Obj)} {σ : L2.St} {H : Hp} {s : Shared} {Q : VK} {us : List Value} {vs : List V} (F : FnW X.prog X.w X.K X.mg X.base k f fd prm sp) (room : RoomW k X.A) (bn : Binds X.K fd prm []) (iv : Inv X pins σ H s) (rel : Vals vs us) (hsp : sp vs H Q E) :
    wpAny (model X.prog X.w) X.A (call (.ref f) us) (EP X pins σ Q) X.xe s := by
  have many : us.length = prm.length := (rel.length).symm.trans (F.many _ _ _ _ hsp)
  have bound := bn s us iv.kIn (by rw [List.append_nil]; exact many)
  rw [List.append_nil] at bound
  refine wpAny_call (codeAny_mono (F.go room iv.env0 bound rel hsp) fun res s2 out => ?_)
  cases res with
  | error u => exact out.elim
  | ok fl =>
    cases fl with
    | ret u => exact iv.after out
    | _ => exact out.elim
theorem pe_callW (F : FnW X.prog X.w X.K X.mg X.base k f fd prm sp) (room : RoomW k X.A) (gl : Gl X x) (at_ : X.mg x = some (.ref f)) (kp : PySem.W.keepIn X.K (.ref f) = true) (bn : Binds X.K fd prm []) (ha : PA X (a0 :: as0) ta)
    (hd : (x == ("__debug__" : Str)) = false := by decide) (he : starEach (a0 :: as0) X.env = (false, eval a0 X.env) :: starEach as0 X.env := by rfl) (hp : (backTo p2 (starEach as0 X.env)).any (·.1) = false := by rfl) :
    PE X (.Call (.Name x p1) (a0 :: as0) [] p2) (tCall sp [] E ta) :=
  ⟨fun pins s σ H Q iv h => wpAny_Call_Name_kw (ld_glob iv gl at_ (PySem.W.callWith_K (h₀ := X.base) iv.ok.mod.kin kp (thn (ha.run p2 pins s σ H _ iv h) fun us s1 ⟨vs, H1, iv1, rel, q⟩ => ⟨iv1.kIn, go_w F room bn iv1 rel (show sp vs H1 Q E by have z : sp (vs ++ []) H1 Q E := q; rw [List.append_nil] at z; exact z)⟩) he hp) hd)⟩
end
section
variable {m : Bool} {X : Cx} {e e0 : Expr} {es : List Expr} {ta : TA} {da : dA} {a dd : Addr} {oe : Obj} {pins : List (Addr × Obj)} {x : Xn} {v : V} {r : Rf} {fs : FSp}
/-- such a call within an except suite -/
theorem do_callW (h : PA (X.suite a ((a, oe) :: pins)) (e0 :: es) ta → PE (X.suite a ((a, oe) :: pins)) e (tCall (spD X.K fs) [] (fun _ _ _ => False) ta)) (ha : @DA (rfX x dd v r) m (X.suite a ((a, oe) :: pins)) (e0 :: es) ta da) :
    @DO (rfX x dd v r) m (X.suite a ((a, oe) :: pins)) e (tCall (spD X.K fs) [] (fun _ _ _ => False) ta) (dCallP fs da) := by
  letI : Rf := rfX x dd v r
  exact do_callP (X := X.suite a ((a, oe) :: pins)) h ha
/-- a value's truth, within an except suite -/
theorem dt_truW {te : TE} {de : dE} (h : @DE (rfX x dd v r) m (X.suite a ((a, oe) :: pins)) e te de) (he : ∀ whole, isTrue e (X.suite a ((a, oe) :: pins)).env whole = (do let v ← whole; standAt e.pos; holding [v] (truthy v)) := by intro _; rfl) :
    @DT (rfX x dd v r) m (X.suite a ((a, oe) :: pins)) e (fun σ H Q => te σ H fun x H' => ∃ k, TruV X.K x H' k ∧ Q k H') (dTru de) := by
  letI : Rf := rfX x dd v r
  exact dt_tru (X := X.suite a ((a, oe) :: pins)) h he
end
end DL
set_option Elab.async false
set_option linter.all false
set_option maxRecDepth 100000
/-! append to an own list of own lists that is looked at no more -/
namespace DL
open PySem PySem.Spec L2
section
variable [Rf] {pn : List Nat} {K : PySem.W.Frag} {te : TE} {de : dE} {X : Cx} {e : Expr} {pos : Pos}
theorem Wd.dropU {B H : Hp} {σ : L2.St} {env : Env} {G : Fp} {i : Nat} {d : D} {l : Addr} {o : HO} (w : Wd K B H σ env G) (hd : env[i]? = some (some d)) (hl : l ∈ G i) :
    Wd K B (upd H l o) σ (env.set i none) (fun j => if j = i then [] else G j) ∧ Stp B H G B (upd H l o) (fun j => if j = i then [] else G j) := by
  have nB : B l = none := w.nb i l hl
  have w2 := w.drop i
  refine ⟨⟨⟨fun a u h => ?_, fun j d2 h => ?_, w2.no, w2.nd, w2.dj, w2.nb, w2.len⟩, w2.rf⟩, ⟨Ex.refl _, fun a u h n => ?_, fun j a h => ?_, fun _ _ _ h _ => h, fun a u h => ?_⟩⟩
  · rw [upd_ne (ne_of_none h nB)]; exact w.ex a u h
  · obtain ⟨v', h1, h2⟩ := w2.sl j d2 h
    refine ⟨v', h1, RpD.mono (Ex.refl B) h2 fun a ha u hu => ?_⟩
    split at ha
    · cases ha
    · rename_i nj
      rw [upd_ne fun q => nj (w.dj i j a (by rw [q]; exact hl) ha).symm]
      exact hu
  · rw [upd_ne fun q => n i (by rw [q]; exact hl)]; exact h
  · split at h
    · cases h
    · exact .inl ⟨j, h⟩
  · by_cases q : a = l
    · rw [q, upd_same]; exact ⟨_, rfl⟩
    · rw [upd_ne q]; exact ⟨_, h⟩
def dAppX (i : Nat) (de : dE) : dS := fun Dd env => match env[i]? with
  | some (some (.oll _)) => de env fun p e => match e[i]? with
    | some (some (.oll pss)) => pss.length < sizeLine ∧ Dd.nx (e.set i none)
    | _ => False
  | _ => False
theorem snd_appX {i : Nat} (h : SndE m K te de) : SndS pn K (tDrop (tBM K "list" rAppend (tVar i) (tCons te tNil))) (dAppX i de) := ⟨fun {B H σ env G Dd D} w q n r k1 k2 => by
  unfold dAppX at q
  split at q
  · rename_i ps0 hd
    obtain ⟨v, h1, a0, vs0, f1, rfl, h4, _⟩ := w.sl i _ hd
    refine ⟨.ref a0, h1, .inl ⟨rfl, _, SqL.of h4⟩, ?_⟩
    refine h.run w q fun p e v2 B1 H1 G1 q1 w1 r1 s1 _ => ?_
    change (match e[i]? with | some (some (.oll pss)) => pss.length < sizeLine ∧ Dd.nx (e.set i none) | _ => False) at q1
    split at q1
    · rename_i pss hd1
      obtain ⟨v3, g1, a1, as, g2, g3, g4, g5, _⟩ := w1.sl i _ hd1
      rw [h1] at g1
      cases g1
      cases g3
      refine ⟨a0, as.map V.ref, v2, rfl, rfl, g4, by rw [List.length_map, g5]; exact q1.1, ?_⟩
      obtain ⟨w2, s2⟩ := w1.dropU (o := .lst (as.map V.ref ++ [v2])) hd1 (l := a0) (by rw [g2]; exact List.mem_cons_self)
      exact n _ σ B1 _ _ q1.2 w2 (s1.trans s2) .refl
    · exact q1.elim
  · exact q.elim⟩
theorem ds_appX {i : Nat} {o : Expr} {apos cpos : Pos} (h : PA X [e] (tCons te tNil) → PE X (.Call (.Attribute o "append" apos) [e] [] cpos) (tBM X.K "list" rAppend (tVar i) (tCons te tNil))) (he : DE false X e te de)
    (hs : swapsWith (.Call (.Attribute o "append" apos) [e] [] cpos) none pos.line X.env = pure false := by rfl) (hs2 : starEach [e] X.env = (false, eval e X.env) :: starEach [] X.env := by rfl) :
    DS pn X (.Expr (.Call (.Attribute o "append" apos) [e] [] cpos) pos) (tDrop (tBM X.K "list" rAppend (tVar i) (tCons te tNil))) (dAppX i de) := ⟨ps_expr (h (pa_cons he.pe pa_nil hs2)) hs, snd_appX he.sd⟩
end
end DL
set_option Elab.async false
set_option linter.all false
set_option maxRecDepth 100000
/-! min of a list of pairs of ints, min of a list of ints -/
namespace DL
open PySem PySem.Spec PyProof.Rows L2
def pLt (p q : Int × Int) : Bool := if p.1 = q.1 then decide (p.2 < q.2) else decide (p.1 < q.1)
def pLe (p q : Int × Int) : Prop := p.1 < q.1 ∨ (p.1 = q.1 ∧ p.2 ≤ q.2)
theorem pLt_no {p q : Int × Int} (h : pLt p q = false) : pLe q p := by
  unfold pLt at h
  unfold pLe
  split at h
  · have := of_decide_eq_false h; omega
  · have := of_decide_eq_false h; omega
theorem pLt_yes {p q : Int × Int} (h : pLt p q = true) : pLe p q := by
  unfold pLt at h
  unfold pLe
  split at h
  · have := of_decide_eq_true h; omega
  · have := of_decide_eq_true h; omega
theorem pLe_trans {p q r : Int × Int} (h : pLe p q) (g : pLe q r) : pLe p r := by unfold pLe at *; omega
theorem pLe_refl (p : Int × Int) : pLe p p := by unfold pLe; omega
theorem best_le (f : Nat → Int × Int) : ∀ n, argBest (fun i j => pLt (f i) (f j)) n ≤ n ∧ ∀ j, j ≤ n → pLe (f (argBest (fun i j => pLt (f i) (f j)) n)) (f j)
  | 0 => ⟨Nat.le_refl _, fun j hj => by rw [Nat.le_zero.mp hj]; exact pLe_refl _⟩
  | n + 1 => by
    obtain ⟨h1, h2⟩ := best_le f n
    rw [argBest]
    split
    · rename_i hb
      refine ⟨Nat.le_refl _, fun j hj => ?_⟩
      rcases Nat.lt_or_ge j (n + 1) with h3 | h3
      · exact pLe_trans (pLt_yes hb) (h2 j (by omega))
      · rw [show j = n + 1 by omega]; exact pLe_refl _
    · rename_i hb
      have hb' : pLt (f (n + 1)) (f (argBest (fun i j => pLt (f i) (f j)) n)) = false := by simpa using hb
      refine ⟨by omega, fun j hj => ?_⟩
      rcases Nat.lt_or_ge j (n + 1) with h3 | h3
      · exact h2 j (by omega)
      · rw [show j = n + 1 by omega]; exact pLt_no hb'
def rMinP (K : PySem.W.Frag) : List V → Hp → VK → Prop := fun vs H Q => ∃ (a : Addr) (xs : List V) (ps : List (Int × Int)), vs = [V.ref a] ∧ SqL K H a xs ∧ xs.length = ps.length ∧
  (∀ i x, xs[i]? = some x → ∃ t, x = V.ref t ∧ SqT K H t [.int (ps.getD i (0, 0)).1, .int (ps.getD i (0, 0)).2]) ∧ 0 < ps.length ∧
  ∀ i x, xs[i]? = some x → (∀ j, j < ps.length → pLe (ps.getD i (0, 0)) (ps.getD j (0, 0))) → Q x H
theorem cr_minP {X : Cx} (hc : X.calm = true) (hu : X.A.units + 64 < cLine) : CallR X (.builtin "min") (rMinP X.K) := by
  intro pins s σ H vs us Q I r h
  obtain ⟨a, xs, ps, rfl, hs, hl2, ht, hne, q⟩ := h
  obtain ⟨its, rv, hl, _⟩ := I.list hs
  rw [Vals.ref1 r]
  have hlen := rv.length
  have tup : ∀ i (u : Value), its[i]? = some u → ∃ (t : Addr) (items : List Value), u = .ref t ∧ s.heap.IsTuple t items.toArray ∧ IntsAre items [(ps.getD i (0, 0)).1, (ps.getD i (0, 0)).2] := fun i u hu' => by
    have hi : i < xs.length := by have := (List.getElem?_eq_some_iff.mp hu').1; omega
    have hx : xs[i]? = some xs[i] := List.getElem?_eq_getElem hi
    obtain ⟨t, ex, hq⟩ := ht i _ hx
    obtain ⟨u2, h1, h2⟩ := rv.get hx
    rw [hu'] at h1
    cases h1
    rw [ex] at h2
    obtain ⟨its2, r2, p2, _⟩ := I.tuple hq
    exact ⟨t, its2, h2, p2, Vals.ints (ns := [(ps.getD i (0, 0)).1, (ps.getD i (0, 0)).2]) r2⟩
  refine call_min_walkH (iter_anyList hl.isList fun s₂ e2 st hfp hlI => ?_)
  subst e2
  refine ⟨_, _, _, _, _, _, _, s.heap, fun i j => pLt (ps.getD i (0, 0)) (ps.getD j (0, 0)), rfl, (Walks.list (A := X.A.in1) (I.ok.hd hc) _ a hlI its.toArray).toS, st, hfp, by rw [List.size_toArray]; omega, fun b o hb hm => ?_, fun b o hb => Heap.get?_push_of_some _ hb, ?_, fun v s' hP hm => ?_⟩
  · rw [List.mem_singleton.mp hm] at hb
    exact absurd (Heap.lt_size hb) (Nat.lt_irrefl _)
  · intro i j vi vj s3 Q3 E3 hk hi hj q3
    obtain ⟨t1, it1, rfl, p1, i1⟩ := tup i vi (by simpa using hi)
    obtain ⟨t2, it2, rfl, p2, i2⟩ := tup j vj (by simpa using hj)
    have p1' : s3.heap.IsTuple t1 it1.toArray := p1.at fun o e => hk t1 o e
    have p2' : s3.heap.IsTuple t2 it2.toArray := p2.at fun o e => hk t2 o e
    have l1 : it1.length = 2 := i1.length
    have l2 : it2.length = 2 := i2.length
    have at1 : ∀ k (h1 : k < it1.toArray.size), ∃ t, it1.toArray[k] = .int ([(ps.getD i (0, 0)).1, (ps.getD i (0, 0)).2].getD k 0) t := fun k h1 => PyProof.Rows.IntsAre.int_at i1 _ _ (by simp at h1; simp [h1])
    have at2 : ∀ k (h1 : k < it2.toArray.size), ∃ t, it2.toArray[k] = .int ([(ps.getD j (0, 0)).1, (ps.getD j (0, 0)).2].getD k 0) t := fun k h1 => PyProof.Rows.IntsAre.int_at i2 _ _ (by simp at h1; simp [h1])
    have e0 : X.A.in1.units ≤ X.A.units + 64 := by
      first
        | exact Nat.le_add_right _ _
        | (show X.A.units + 1 ≤ _; omega)
        | (show X.A.units + 2 ≤ _; omega)
        | (show X.A.units + 3 ≤ _; omega)
    have hu1 : X.A.in1.units < cLine := Nat.lt_of_le_of_lt e0 hu
    have R := Ob.RcOp.tuples_lt (A := X.A.in1) (s := s3) (e := fun k => decide ([(ps.getD i (0, 0)).1, (ps.getD i (0, 0)).2].getD k 0 = [(ps.getD j (0, 0)).1, (ps.getD j (0, 0)).2].getD k 0)) (r := fun k => decide ([(ps.getD i (0, 0)).1, (ps.getD i (0, 0)).2].getD k 0 < [(ps.getD j (0, 0)).1, (ps.getD j (0, 0)).2].getD k 0)) p1' p2' hu1 (fun k h1 h2 => by
      obtain ⟨t, et⟩ := at1 k h1
      obtain ⟨t', et'⟩ := at2 k h2
      rw [et, et']
      exact SeqAt.EqAt.int_int _ _ _ _) (fun k h1 h2 _ => by
      obtain ⟨t, et⟩ := at1 k h1
      obtain ⟨t', et'⟩ := at2 k h2
      rw [et, et']
      exact Ob.RcOp.lt_int _ _ _ _)
    rw [List.size_toArray, List.size_toArray, l1, l2] at R
    refine R X.prog X.w E3 Q3 ?_
    have ev : Ob.lexAt (fun k => decide ([(ps.getD i (0, 0)).1, (ps.getD i (0, 0)).2].getD k 0 = [(ps.getD j (0, 0)).1, (ps.getD j (0, 0)).2].getD k 0)) (fun k => decide ([(ps.getD i (0, 0)).1, (ps.getD i (0, 0)).2].getD k 0 < [(ps.getD j (0, 0)).1, (ps.getD j (0, 0)).2].getD k 0)) (decide (2 < 2)) 0 (min 2 2) = pLt (ps.getD i (0, 0)) (ps.getD j (0, 0)) := by
      show Ob.lexAt _ _ _ 0 2 = _
      rw [Ob.lexAt_succ, Ob.lexAt_succ, Ob.lexAt_zero]
      unfold pLt
      simp only [List.getD_cons_zero, List.getD_cons_succ, decide_eq_true_eq]
      by_cases h1 : (ps.getD i (0, 0)).1 = (ps.getD j (0, 0)).1
      · rw [if_pos h1, if_pos h1]
        by_cases h2 : (ps.getD i (0, 0)).2 = (ps.getD j (0, 0)).2
        · rw [if_pos h2, h2]; simp
        · rw [if_neg h2]
      · rw [if_neg h1, if_neg h1]
    rw [ev]
    exact q3
  · have hb := best_le (fun i => ps.getD i (0, 0)) (its.toArray.size - 1)
    rw [List.size_toArray] at hb
    have hsz : its.toArray.size = its.length := List.size_toArray
    rw [List.size_toArray] at hP
    generalize argBest (fun i j => pLt (ps.getD i (0, 0)) (ps.getD j (0, 0))) (its.length - 1) = m at hb hP
    have hP' : its[m]? = some v := by simpa using hP
    have hml : m < xs.length := by have := (List.getElem?_eq_some_iff.mp hP').1; omega
    have hx : xs[m]? = some xs[m] := List.getElem?_eq_getElem hml
    obtain ⟨u2, h1, h2⟩ := rv.get hx
    rw [hP'] at h1
    cases h1
    have I2 := I.kept (t' := s'.toks) (h' := s'.heap) fun b o eo => hm.heap b o (fun hmem => by
      rw [List.mem_singleton.mp hmem] at eo
      exact absurd (Heap.lt_size eo) (Nat.lt_irrefl _)) (Heap.get?_push_of_some _ eo)
    obtain ⟨hh, gg, dd, tt, oo⟩ := s'
    have eg : gg = s.gens := hm.gens
    have ed : dd = s.drawn := hm.drawn
    have eo : oo = s.os := hm.os
    subst eg ed eo
    exact ⟨_, H, I2, h2, q m _ hx fun j hj => hb.2 j (by omega)⟩
/-! ### min(a list of pairs), over data -/
def pair1 : P → Option (Int × Int)
  | .tup [.int a, .int b] => some (a, b)
  | _ => none
def pairP (p : Int × Int) : P := .tup [.int p.1, .int p.2]
theorem pair1_of {x : P} {q : Int × Int} (h : pair1 x = some q) : x = pairP q := by
  unfold pair1 at h
  split at h
  · cases h; rfl
  · cases h
def pairsP : List P → Option (List (Int × Int))
  | [] => some []
  | p :: ps => match pair1 p, pairsP ps with
    | some a, some b => some (a :: b)
    | _, _ => none
theorem pairs_map (ps : List (Int × Int)) : pairsP (ps.map pairP) = some ps := by
  induction ps with
  | nil => rfl
  | cons p ps ih =>
    show (match pair1 (pairP p), pairsP (ps.map pairP) with | some a, some b => some (a :: b) | _, _ => none) = _
    rw [ih]; rfl
theorem pairs_of : ∀ {xs : List P} {ps : List (Int × Int)}, pairsP xs = some ps → xs = ps.map pairP
  | [], _, h => by cases h; rfl
  | x :: xs, ps, h => by
    unfold pairsP at h
    cases h1 : pair1 x with
    | none => rw [h1] at h; cases h
    | some q =>
      cases h2 : pairsP xs with
      | none => rw [h1, h2] at h; cases h
      | some l =>
        rw [h1, h2] at h
        cases h
        rw [pairs_of h2, pair1_of h1]
        rfl
section
variable [Rf] {K : PySem.W.Frag}
def dMinP (ps : List P) (Q : P → Prop) : Prop := match ps with
  | [p] => (match plst p with
    | some xs => (match pairsP xs with
      | some prs => 0 < prs.length ∧ ∀ i, i < prs.length → (∀ j, j < prs.length → pLe (prs.getD i (0, 0)) (prs.getD j (0, 0))) → Q (pairP (prs.getD i (0, 0)))
      | none => False)
    | none => False)
  | _ => False
theorem cs_minP : CbS K (rMinP K) dMinP := ⟨fun {B H xs ps QD Q} e r q k => by
  unfold dMinP at q
  split at q
  · rename_i p
    split at q
    · rename_i ys hp
      split at q
      · rename_i prs hn
        obtain ⟨v, rfl, rv⟩ := one_rp r
        obtain ⟨a, vs, rfl, h1, h2⟩ := plst_rp rv hp
        have ey := pairs_of hn
        subst ey
        have hl : vs.length = prs.length := by rw [h2.length, List.length_map]
        have at_ : ∀ i x, vs[i]? = some x → i < prs.length ∧ Rp K B (pairP (prs.getD i (0, 0))) x := fun i x hx => by
          have hi : i < prs.length := by have := (List.getElem?_eq_some_iff.mp hx).1; omega
          have hp2 : (prs.map pairP)[i]? = some (pairP (prs.getD i (0, 0))) := by
            rw [List.getElem?_map, List.getD_eq_getElem?_getD, List.getElem?_eq_getElem hi]; rfl
          obtain ⟨u, g1, g2⟩ := h2.get hp2
          rw [hx] at g1
          cases g1
          exact ⟨hi, g2⟩
        refine ⟨a, vs, prs, rfl, e.sqL h1, hl, fun i x hx => ?_, q.1, fun i x hx hm => ?_⟩
        · obtain ⟨_, t, ws, rfl, g1, g2⟩ := at_ i x hx
          obtain ⟨v1, v2, rfl, r1, r2⟩ := two_rp g2
          cases (show v1 = V.int _ from r1)
          cases (show v2 = V.int _ from r2)
          exact ⟨t, rfl, e.sqT g1⟩
        · obtain ⟨hi, g⟩ := at_ i x hx
          exact k _ B H _ (q.2 i hi hm) g (.refl e)
      · exact q.elim
    · exact q.elim
  · exact q.elim⟩
def dMinL (ps : List P) (Q : P → Prop) : Prop := match ps with
  | [p] => (match plst p with
    | some xs => (match intsP xs with
      | some ns => 0 < ns.length ∧ ∀ m, m ∈ ns → (∀ y, y ∈ ns → m ≤ y) → Q (.int m)
      | none => False)
    | none => False)
  | _ => False
theorem cs_minL : CbS K (rMin K) dMinL := ⟨fun {B H xs ps QD Q} e r q k => by
  unfold dMinL at q
  split at q
  · rename_i p
    split at q
    · rename_i ys hp
      split at q
      · rename_i ns hn
        obtain ⟨v, rfl, rv⟩ := one_rp r
        obtain ⟨a, vs, rfl, h1, h2⟩ := plst_rp rv hp
        rw [ints_rp h2 hn] at h1
        exact ⟨a, ns, rfl, e.sqL h1, q.1, fun m h3 h4 => k _ B H _ (q.2 m h3 h4) rfl (.refl e)⟩
      · exact q.elim
    · exact q.elim
  · exact q.elim⟩
/-! ### l.index(n), l a list of ints -/
variable {m : Bool} {te : TE} {de : dE} {ta : TA} {da : dA} {X : Cx} {o e : Expr} {apos cpos : Pos}
def idxQ (p q : P) (Q : P → Prop) : Prop := match plst p, q with
  | some xs, .int n => (match intsP xs with
    | some ns => ∃ j : Nat, ns[j]? = some n ∧ (∀ k, k < j → ns[k]? ≠ some n) ∧ Q (.int (j : Nat))
    | none => False)
  | _, _ => False
def idxA (p : P) (as : List AR) (Q : P → Prop) : Prop := match prs as with
  | some [q] => idxQ p q Q
  | _ => False
def dIdx (de : dE) (da : dA) : dE := fun env Q => de env fun p e => (plst p).isSome = true ∧ da e fun as e2 => idxA p as fun z => Q z e2
theorem flat_ints (ns : List Int) : (ns.map V.int).all flatV = true := by
  induction ns with
  | nil => rfl
  | cons n ns ih => rw [List.map_cons, List.all_cons, ih]; rfl
theorem snd_idx (h : SndE m K te de) (g : SndA m K ta da) : SndE m K (tBM K "list" (rIndex K) te ta) (dIdx de da) := ⟨fun {B H σ env G QD Q} w q k => h.run w q fun p e v B1 H1 G1 q1 w1 r1 s1 u1 => by
  obtain ⟨hsome, q1⟩ := q1
  obtain ⟨xs0, hxs0⟩ := Option.isSome_iff_exists.mp hsome
  have ty : tyV K "list" v H1 := by
    obtain ⟨a, ws, rfl, h1, _⟩ := plst_rp r1 hxs0
    exact .inl ⟨rfl, ws, w1.ex.sqL h1⟩
  refine ⟨ty, g.run w1 q1 fun as e2 vs B2 H2 G2 q2 w2 r2 s2 u2 => ?_⟩
  unfold idxA at q2
  split at q2
  · rename_i q hq
    unfold idxQ at q2
    split at q2
    · rename_i xs n hp
      split at q2
      · rename_i ns hns
        obtain ⟨j, hj, hno, q2⟩ := q2
        obtain ⟨u, rfl, ru⟩ := one_rp (r2.all hq)
        cases (show u = V.int n from ru)
        obtain ⟨a, ws, rfl, h1, h2⟩ := plst_rp (Rp.mono s2.ex _ r1) hp
        rw [ints_rp h2 hns] at h1
        refine ⟨a, ns.map V.int, .int n, j, .int n, rfl, rfl, w2.ex.sqL h1, rfl, flat_ints ns, by rw [List.getElem?_map, hj]; rfl, by show decide (n = n) = true; simp, fun i z' hi hz => ?_, k _ e2 _ B2 H2 G2 q2 w2 rfl (s1.trans s2) (u1.trans u2)⟩
        rw [List.getElem?_map] at hz
        cases hk : ns[i]? with
        | none => rw [hk] at hz; cases hz
        | some b =>
          rw [hk] at hz
          cases hz
          have : b ≠ n := fun e => hno i hi (by rw [hk, e])
          show decide (b = n) = false
          exact decide_eq_false this
      · exact q2.elim
    · exact q2.elim
  · exact q2.elim⟩
theorem de_idx {e0 : Expr} (h : PE X o te → PA X [e0] ta → PE X (.Call (.Attribute o "index" apos) [e0] [] cpos) (tBM X.K "list" (rIndex X.K) te ta)) (ho : DE m X o te de) (ha : DA m X [e0] ta da) :
    DE m X (.Call (.Attribute o "index" apos) [e0] [] cpos) (tBM X.K "list" (rIndex X.K) te ta) (dIdx de da) := ⟨h ho.pe ha.pe, snd_idx ho.sd ha.sd⟩
end
end DL
set_option Elab.async false
set_option linter.all false
set_option maxRecDepth 100000
/-! chains of two comparisons, starred items, name += e, what a try may hold -/
namespace DL
open PySem PySem.Spec L2
section
variable [Rf] {m : Bool} {pn : List Nat} {K : PySem.W.Frag} {ta tb tc te : TE} {da db dc de : dE} {tA : TA} {dA0 : dA} {X : Cx} {a b c e : Expr} {es : List Expr} {p pos : Pos}
/-! ### a op b op' c -/
def isBlQ (z : P) (Q : Bool → Prop) : Prop := match z with
  | .bl c => Q c
  | _ => False
def dChain (rd rd' : P → P → (P → Prop) → Prop) (da db dc : dE) : dE := fun env Q => da env fun p e1 => db e1 fun q e2 => rd p q fun z => isBlQ z fun k => cnd k (dc e2 fun s e3 => rd' q s fun z' => Q z' e3) (Q (.bl false) e2)
theorem snd_chain {r r' : R2} {rd rd' : P → P → (P → Prop) → Prop} (hs : OpS K r rd) (hs' : OpS K r' rd') (ha : SndE m K ta da) (hb : SndE m K tb db) (hc : SndE m K tc dc) : SndE m K (tChain r r' ta tb tc) (dChain rd rd' da db dc) :=
  ⟨fun {B H σ env G QD Q} w h k => ha.run w h fun p e1 v B1 H1 G1 q1 w1 r1 s1 u1 => hb.run w1 q1 fun q e2 u B2 H2 G2 q2 w2 r2 s2 u2 =>
    hs.run w2.ex (Rp.mono s2.ex p r1) r2 q2 fun z B3 H3 pz q3 r3 g3 => by
      cases pz with
      | bl c =>
        refine ⟨c, r3, ?_⟩
        have st := (s1.trans s2).trans (g3.stp (G := G2))
        have pu := (u1.trans u2).trans (.gr g3)
        cases c with
        | false =>
          rw [if_neg Bool.false_ne_true]
          exact k _ e2 _ B3 H3 G2 (q3.2 rfl) (w2.gr g3) rfl st pu
        | true =>
          rw [if_pos rfl]
          refine hc.run (w2.gr g3) (q3.1 rfl) fun s e3 t B4 H4 G4 q4 w4 r4 s4 u4 => ?_
          exact hs'.run w4.ex (Rp.mono s4.ex q (Rp.mono g3.b q r2)) r4 q4 fun z' B5 H5 pz' q5 r5 g5 => k pz' e3 z' B5 H5 G4 q5 (w4.gr g5) r5 ((st.trans s4).trans g5.stp) ((pu.trans u4).trans (.gr g5))
      | _ => exact q3.elim⟩
theorem de_chain {op op' : CmpOp} {r r' : R2} {rd rd' : P → P → (P → Prop) → Prop} (ho : OpR X (compareOp op) r) (hs : OpS X.K r rd) (ho' : OpR X (compareOp op') r') (hs' : OpS X.K r' rd') (ha : DE m X a ta da) (hb : DE m X b tb db) (hc : DE m X c tc dc)
    (hm : lastMarks [op, op'] [b, c] = false := by with_unfolding_all rfl) : DE m X (.Compare a [op, op'] [b, c] pos) (tChain r r' ta tb tc) (dChain rd rd' da db dc) := ⟨pe_chain ho ho' ha.pe hb.pe hc.pe hm, snd_chain hs hs' ha.sd hb.sd hc.sd⟩
theorem dt_chain {op op' : CmpOp} {r r' : R2} {rd rd' : P → P → (P → Prop) → Prop} (ho : OpR X (compareOp op) r) (hs : OpS X.K r rd) (ho' : OpR X (compareOp op') r') (hs' : OpS X.K r' rd') (ha : DE m X a ta da) (hb : DE m X b tb db) (hc : DE m X c tc dc)
    (hm : lastMarks [op, op'] [b, c] = false := by with_unfolding_all rfl) : DT m X (.Compare a [op, op'] [b, c] pos) (tTest (tChain r r' ta tb tc)) (dB (dChain rd rd' da db dc)) := ⟨pt_chain ho ho' ha.pe hb.pe hc.pe hm, snd_test (snd_chain hs hs' ha.sd hb.sd hc.sd)⟩
/-! ### *e among the items -/
def pitems : P → Option (List P)
  | .lst xs => some xs
  | .rol xs => some xs
  | .tup xs => some xs
  | _ => none
theorem pitems_rp {B : Hp} {p : P} {v : V} {ps : List P} (r : Rp K B p v) (h : pitems p = some ps) : ∃ a vs, v = .ref a ∧ (SqT K B a vs ∨ SqL K B a vs) ∧ RpA K B ps vs := by
  cases p with
  | lst qs => cases h; obtain ⟨a, vs, e1, e2, e3⟩ := r; exact ⟨a, vs, e1, .inr (SqL.of e2), e3⟩
  | rol qs => cases h; obtain ⟨a, vs, e1, e2, e3⟩ := r; exact ⟨a, vs, e1, .inr e2, e3⟩
  | tup qs => cases h; obtain ⟨a, vs, e1, e2, e3⟩ := r; exact ⟨a, vs, e1, .inl e2, e3⟩
  | _ => cases h
def starQ (p : P) (f : List P → Prop) : Prop := match pitems p with
  | some ps => f ps
  | none => False
def dStar (de : dE) (dr : dA) : dA := fun env Q => de env fun p e => starQ p fun ps => dr e fun as e2 => Q (ps.map Sum.inl ++ as) e2
theorem RpX.app {B : Hp} {σ : L2.St} {as : List AR} {us : List V} : ∀ {ps : List P} {vs : List V}, RpA K B ps vs → RpX K B σ as us → RpX K B σ (ps.map Sum.inl ++ as) (vs ++ us)
  | [], _, h, g => by rw [show _ = [] from h]; exact g
  | p :: ps, _, ⟨v, r, e1, e2, e3⟩, g => by rw [e1]; exact ⟨v, r ++ us, rfl, e2, RpX.app e3 g⟩
theorem snd_star (h : SndE m K te de) (g : SndA m K tA dA0) : SndA m K (StX.tStar K te tA) (dStar de dA0) := ⟨fun w q k => h.run w q fun p e1 v B1 H1 G1 q1 w1 r1 s1 u1 => by
  unfold starQ at q1
  split at q1
  · rename_i ps hp
    obtain ⟨a, vs, rfl, h2, h3⟩ := pitems_rp r1 hp
    refine ⟨a, vs, rfl, h2.imp w1.ex.sqT w1.ex.sqL, g.run w1 q1 fun as e2 us B2 H2 G2 q2 w2 r2 s2 u2 => ?_⟩
    exact k _ e2 _ B2 H2 G2 q2 w2 (RpX.app (RpA.mono s2.ex ps h3) r2) (s1.trans s2) (u1.trans u2)
  · exact q1.elim⟩
theorem da_star (h : DE m X e te de) (g : DA m X es tA dA0) (hs : starEach (.Starred e p :: es) X.env = (true, eval e X.env) :: starEach es X.env := by rfl) : DA m X (.Starred e p :: es) (StX.tStar X.K te tA) (dStar de dA0) := ⟨StX.pa_star h.pe g.pe hs, snd_star h.sd g.sd⟩
/-! ### name += e, ints -/
def augQ (o : Option (Option D)) (p : P) (f : Int → Int → Prop) : Prop := match o, p with
  | some (some (.sh (.int i))), .int j => f i j
  | _, _ => False
def dAug (i : Nat) (g : Int → Int → Int) (de : dE) : dS := fun Dd env => augQ env[i]? (.int 0) (fun _ _ => de env fun p e => augQ env[i]? p fun x y => Dd.nx (e.set i (some (.sh (.int (g x y))))))
theorem snd_aug {i : Nat} {g : Int → Int → Int} (hp : i ∉ pn) (h : SndE true K te de) : SndS pn K (tAug i te (ipI g)) (dAug i g de) := ⟨fun {B H σ env G Dd D} w q n r k1 k2 => by
  unfold dAug augQ at q
  split at q
  · rename_i x y e0 ey
    obtain ⟨v, h1, h2⟩ := w.sl i _ e0
    cases (show v = V.int x from h2.2)
    refine ⟨_, h1, h.run w q fun p e1 u B1 H1 G1 q1 w1 r1 s1 u1 => ?_⟩
    split at q1
    · rename_i x' y' e2
      rw [e0] at e2
      cases e2
      cases (show u = V.int y' from r1)
      refine ⟨_, _, rfl, rfl, ?_⟩
      obtain ⟨rfl, rfl, gg⟩ := u1 rfl
      exact n _ _ B1 H1 _ q1 (w1.putS (env_lt e0) rfl) (s1.trans (stp_put fun _ h => absurd h List.not_mem_nil)) (Pin.set hp)
    · exact q1.elim
  · exact q.elim⟩
theorem ds_aug {i : Nat} {x : Str} {op : Operator} {g : Int → Int → Int} {p' : Pos} (hp : i ∉ pn) (h : PE X e te → PS X (.AugAssign (.Name x p') op e pos) (tAug i te (ipI g))) (he : DE true X e te de) : DS pn X (.AugAssign (.Name x p') op e pos) (tAug i te (ipI g)) (dAug i g de) := ⟨h he.pe, snd_aug hp he.sd⟩
end
/-! ### what a try holds: it goes on, or it raises while the slots stand as they stood -/
section
variable [rI : Rf] {pn : List Nat} {K : PySem.W.Frag} {te : TE} {de : dE} {ta : TA} {da : dA} {X : Cx} {tt : TT} {dt : dT}
structure CXS (pn : List Nat) (K : PySem.W.Frag) (ts : (St → XK) → TS) (rd : Env → dEnds → (Xn → Prop) → Prop) : Prop where
  run : ∀ {B H : Hp} {σ : St} {env : Env} {G : Fp} {Dd : dEnds} {D : Ends} {QX : Xn → Prop} {E : St → XK}, Wd K B H σ env G → rd env Dd QX → Nx K pn B H G σ Dd.nx D.nx → Rt K pn B H G σ Dd.rt D.rt →
    (∀ x dd v B' H', QX x → Ex H B' → Ex B' H' → B' dd = none → H' dd = some (.xd [(x.f, v)]) → Rp K B' x.p v → E σ (.ref x.C) (some dd) H') → ts E D σ H
theorem cxs_expr {tc : (St → XK) → TE} {rd : Env → (P → Prop) → (Xn → Prop) → Prop} (h : CX1 K tc rd) : CXS pn K (fun E => tDrop (tc E)) (fun env Dd QX => rd env (fun _ => Dd.nx env) QX) :=
  ⟨fun {B H σ env G Dd D QX E} w q n r k => h.run w q (fun z v B' H' qz rz gg => n env σ B' H' G qz (w.gr gg) gg.stp .refl) k⟩
theorem cxs_asg {tc : (St → XK) → TE} {rd : Env → (P → Prop) → (Xn → Prop) → Prop} {j : Nat} (hj : j ∉ pn) (h : CX1 K tc rd) : CXS pn K (fun E => tAsg (tc E) (gName j)) (fun env Dd QX => rd env (fun p => inE j env = true ∧ Dd.nx (env.set j (some (.sh p)))) QX) :=
  ⟨fun {B H σ env G Dd D QX E} w q n r k => h.run w q (fun z v B' H' qz rz gg => n _ _ B' H' _ qz.2 ((w.gr gg).putS (inE_lt qz.1) rz) (gg.stp.trans (stp_put fun _ h => absurd h List.not_mem_nil)) (Pin.set hj)) k⟩
theorem cxs_ret {tc : (St → XK) → TE} {rd : Env → (P → Prop) → (Xn → Prop) → Prop} (h : CX1 K tc rd) : CXS pn K (fun E => tRet (tc E)) (fun env Dd QX => rd env (fun p => Dd.rt (.sh p) env) QX) :=
  ⟨fun {B H σ env G Dd D QX E} w q n r k => h.run w q (fun z v B' H' qz rz gg => r _ env σ v [] B' H' G qz (w.gr gg) ⟨⟨rfl, rz⟩, List.nodup_nil, fun _ h => absurd h List.not_mem_nil, fun _ h => absurd h List.not_mem_nil, fun _ h => absurd h List.not_mem_nil⟩ gg.stp .refl) k⟩
theorem cxs_if {t1 t2 : (St → XK) → TS} {r1 r2 : Env → dEnds → (Xn → Prop) → Prop} (hc : SndT true K tt dt) (h1 : CXS pn K t1 r1) (h2 : CXS pn K t2 r2) : CXS pn K (fun E => tIfS tt (t1 E) (t2 E)) (fun env Dd QX => dt env fun c e => cnd c (r1 e Dd QX) (r2 e Dd QX)) :=
  ⟨fun {B H σ env G Dd D QX E} w q n r k => hc.run w q fun c e1 B1 H1 G1 q1 w1 s1 u1 => by
    obtain ⟨rfl, rfl, gg⟩ := u1 rfl
    have kk : ∀ x dd v B' H', QX x → Ex H1 B' → Ex B' H' → B' dd = none → H' dd = some (.xd [(x.f, v)]) → Rp K B' x.p v → E σ (.ref x.C) (some dd) H' := fun x dd v B' H' qx e1 e2 hn hd rp => k x dd v B' H' qx (gg.h.trans e1) e2 hn hd rp
    cases c with
    | true =>
      show (if true = true then t1 E D σ H1 else t2 E D σ H1)
      rw [if_pos rfl]
      exact h1.run w1 (q1.1 rfl) (n.at s1 .refl) (r.at s1 .refl) kk
    | false =>
      show (if false = true then t1 E D σ H1 else t2 E D σ H1)
      rw [if_neg Bool.false_ne_true]
      exact h2.run w1 (q1.2 rfl) (n.at s1 .refl) (r.at s1 .refl) kk⟩
def dTryS (K : PySem.W.Frag) (c : Value) (i : Nat) (rd : Env → dEnds → (Xn → Prop) → Prop) (dsu : Addr → Xn → dS) (RD : Xn → Prop) : dS := fun Dd env => rd env Dd (tryX K c i dsu RD Dd env)
theorem snd_tryS {c : Value} {i : Nat} {tc : (St → XK) → TS} {rd : Env → dEnds → (Xn → Prop) → Prop} {ts : Addr → Value → Option Addr → TS} {dsu : Addr → Xn → dS} {RD : Xn → Prop} {E : XK} (hE : HE K RD E) (hp : i ∉ pn) (hc : CXS pn K tc rd)
    (hsu : ∀ (a : Addr) (x : Xn) (dd : Addr) (v : V) (r : Rf), (∀ B, Rp K B x.p v) → r.R dd = none → @SndS (rfX x dd v r) pn K (ts a (.ref x.C) (some dd)) (dsu a x)) :
    SndS pn K (fun D σ H => tc (WE (wAs K c i ts (WO E) D)) D σ H) (dTryS K c i rd dsu RD) := ⟨fun {B H σ env G Dd D} w q n r k1 k2 => by
  refine hc.run w q n r fun x dd v B' H' qx e1 e2 hn hd rp => ?_
  obtain ⟨hat, ⟨hm, hi, hs⟩ | ⟨hm, hr⟩⟩ := qx
  · refine ⟨true, hm, fun _ a ha => ?_, fun h => by cases h⟩
    have hH : H dd = none := e1.back hn
    have hB : B dd = none := w.ex.back hH
    have hR : Rf.R dd = none := w.rf.back hB
    have g : Gr B H (upd B dd (.xd [(x.f, v)])) H' := ⟨fun b o h => by rw [upd_ne (ne_of_none h hB)]; exact h, e1.trans e2, fun b o h => by
      by_cases e : b = dd
      · subst e; rw [upd_same] at h; cases h; exact hd
      · rw [upd_ne e] at h; exact e2 b o (e1 b o (w.ex b o h)), fun b o h hb => by rw [upd_ne (ne_of_none h hH)]; exact hb⟩
    have w2 := w.gr g
    have hi' := inE_lt hi
    have s4 : Stp B H G (upd B dd (.xd [(x.f, v)])) H' (fun j => if j = i then [] else G j) := g.stp.trans (stp_put fun _ h => absurd h List.not_mem_nil)
    have p4 : Pin pn σ (σ.set i (some (V.ref a))) := Pin.set hp
    have up : Ex Rf.R (upd Rf.R dd (.xd [(x.f, v)])) := fun b o h => by rw [upd_ne (ne_of_none h hR)]; exact h
    have w4 := w2.putS (p := .ob a) (v := V.ref a) hi' rfl
    have up2 : Ex (upd Rf.R dd (.xd [(x.f, v)])) (upd B dd (.xd [(x.f, v)])) := fun b o h => by
      by_cases e : b = dd
      · subst e
        rw [upd_same] at h ⊢; exact h
      · rw [upd_ne e] at h ⊢; exact w.rf b o h
    exact run_w (R1 := rI) (R2 := rfX x dd v rI) up (hsu a x dd v rI (fun B => atom_rp hat rp B) hR) w4.toWd0 up2 (hs a) (nx_none hp (n.at s4 p4)) (r.at s4 p4) (nx_none hp (k1.at s4 p4)) (nx_none hp (k2.at s4 p4))
  · exact ⟨false, hm, fun h => (by cases h), fun _ => hE x dd v B' H' hr (w.rf.trans (w.ex.trans e1)) e2 hn hd rp⟩⟩
theorem ds_tryS {c : Value} {i : Nat} {tc : (St → XK) → TS} {rd : Env → dEnds → (Xn → Prop) → Prop} {ts : Addr → Value → Option Addr → TS} {dsu : Addr → Value → Option Addr → Xn → Addr → dS} {RD : Xn → Prop} {E : XK} {st : Stmt} {suite : List Stmt}
    (hE : HE X.K RD E) (hp : i ∉ pn) (hc : CXS pn X.K tc rd)
    (hps : Suite X suite ts → PS X st (fun D σ H => tc (WE (wAs X.K c i ts (WO E) D)) D σ H))
    (hsu : SuiteD pn X suite ts dsu) :
    DS pn X st (fun D σ H => tc (WE (wAs X.K c i ts (WO E) D)) D σ H) (dTryS X.K c i rd (fun a x Dd env => ∀ dd, dsu a (.ref x.C) (some dd) x dd Dd env) RD) :=
  ⟨hps fun a oe cls d pins hz hf => dss_pe (hsu a oe cls d pins ⟨0, "", .non⟩ 0 .non rf0 hz hf (fun _ => rfl)),
   snd_tryS hE hp hc fun a x dd v r hv _ => dss_run (K := X.K) (hsu a { cls := .ref x.C, dict := some dd, data := .fields #[] } (.ref x.C) (some dd) [] x dd v r ⟨rfl, rfl⟩ ⟨_, rfl⟩ hv) rfl fun Dd env q => q dd⟩
end
/-! ### the same with its rows -/
section
variable [rI : Rf] {pn : List Nat} {ta : TA} {da : dA} {X : Cx} {tt : TT} {dt : dT} {fs : FSp} {fx : FXp} {j i : Nat} {c0 : Expr} {st : Stmt} {s1 s2 body suite : List Stmt} {t1 t2 tc : (St → XK) → TS} {r1 r2 rd : Env → dEnds → (Xn → Prop) → Prop} {pos : Pos}
structure DXS [Rf] (pn : List Nat) (X : Cx) (st : List Stmt) (tc : (St → XK) → TS) (rd : Env → dEnds → (Xn → Prop) → Prop) : Prop where
  pe : ∀ (W : WX) (pn' : List (Addr × Obj)) (xe : Value → Shared → Prop), Takes (X.tr pn' xe) W → PassesOwn (model X.prog X.w) X.A X.env xe → PSs (X.tr pn' xe) st (tc (WE W))
  sd : CXS pn X.K tc rd
theorem dxs_if (hT : DT true X c0 tt dt) (hTr : ∀ (pn' : List (Addr × Obj)) (xe : Value → Shared → Prop), PT (X.tr pn' xe) c0 tt) (h1 : DXS pn X s1 t1 r1) (h2 : DXS pn X s2 t2 r2) :
    DXS pn X [.If c0 s1 s2 pos] (fun E => tIfS tt (t1 E) (t2 E)) (fun env Dd QX => dt env fun c e => cnd c (r1 e Dd QX) (r2 e Dd QX)) :=
  ⟨fun W pn' xe tk po => pss_one (ps_if (hTr pn' xe) (h1.pe W pn' xe tk po) (h2.pe W pn' xe tk po)), cxs_if hT.sd h1.sd h2.sd⟩
def asgVal : Stmt → Expr
  | .Assign _ e _ => e
  | _ => .Constant .none 0 ⟨0, 0, 0, 0⟩
def exprVal : Stmt → Expr
  | .Expr e _ => e
  | _ => .Constant .none 0 ⟨0, 0, 0, 0⟩
theorem dxs_asgF (hj : j ∉ pn) (ha : DA true X (callArgs (asgVal st)) ta da) (hpe : ∀ (W : WX) (pn' : List (Addr × Obj)) (xe : Value → Shared → Prop), Takes (X.tr pn' xe) W → PS (X.tr pn' xe) st (tAsg (tCallS (spX X.K fs fx) (WE W) ta) (gName j))) :
    DXS pn X [st] (fun E => tAsg (tCallS (spX X.K fs fx) E ta) (gName j)) (fun env Dd QX => cxCall fs fx da env (fun p => inE j env = true ∧ Dd.nx (env.set j (some (.sh p)))) QX) :=
  ⟨fun W pn' xe tk _ => pss_one (hpe W pn' xe tk), cxs_asg hj (cx_call ha.sd)⟩
theorem dxs_exprF (ha : DA true X (callArgs (exprVal st)) ta da) (hpe : ∀ (W : WX) (pn' : List (Addr × Obj)) (xe : Value → Shared → Prop), Takes (X.tr pn' xe) W → PS (X.tr pn' xe) st (tDrop (tCallS (spX X.K fs fx) (WE W) ta))) :
    DXS pn X [st] (fun E => tDrop (tCallS (spX X.K fs fx) E ta)) (fun env Dd QX => cxCall fs fx da env (fun _ => Dd.nx env) QX) :=
  ⟨fun W pn' xe tk _ => pss_one (hpe W pn' xe tk), cxs_expr (cx_call ha.sd)⟩
theorem ds_tryD {c : Value} {ts : Addr → Value → Option Addr → TS} {dsu : Addr → Value → Option Addr → Xn → Addr → dS} {RD : Xn → Prop} {E : XK} (hE : HE X.K RD E) (hp : i ∉ pn) (hd : DXS pn X body tc rd)
    (hps : (∀ (W : WX) (pn' : List (Addr × Obj)) (xe : Value → Shared → Prop), Takes (X.tr pn' xe) W → PassesOwn (model X.prog X.w) X.A X.env xe → PSs (X.tr pn' xe) body (tc (WE W))) → Suite X suite ts → PS X st (fun D σ H => tc (WE (wAs X.K c i ts (WO E) D)) D σ H))
    (hsu : SuiteD pn X suite ts dsu) :
    DS pn X st (fun D σ H => tc (WE (wAs X.K c i ts (WO E) D)) D σ H) (dTryS X.K c i rd (fun a x Dd env => ∀ dd, dsu a (.ref x.C) (some dd) x dd Dd env) RD) := ds_tryS hE hp hd.sd (hps hd.pe) hsu
end
/-! ### x in a list or tuple of ints, of texts -/
section
variable {K : PySem.W.Frag}
def dIn (neg : Bool) : P → P → (P → Prop) → Prop := fun p q Q => (∃ (i : Int) (zs : List Int), p = .int i ∧ pitems q = some (zs.map P.int) ∧ Q (.bl (if neg then !decide (i ∈ zs) else decide (i ∈ zs)))) ∨
  ∃ (s : Str) (ss : List Str), p = .str s ∧ pitems q = some (ss.map P.str) ∧ Q (.bl (if neg then !decide (s ∈ ss) else decide (s ∈ ss)))
theorem RpA.strs_inv {B : Hp} : ∀ {ss : List Str} {vs : List V}, RpA K B (ss.map P.str) vs → vs = ss.map V.str
  | [], _, h => h
  | s :: ss, _, ⟨v, r, e1, e2, e3⟩ => by rw [e1, RpA.strs_inv e3, show v = V.str s from e2]; rfl
theorem inVI (i : Int) : ∀ zs : List Int, inV (.int i) (zs.map V.int) = decide (i ∈ zs)
  | [] => by simp [inV]
  | z :: zs => by
    have ih := inVI i zs
    unfold inV at ih ⊢
    rw [List.map_cons, List.any_cons, ih]
    by_cases h : z = i
    · subst h
      rw [decide_eq_true (List.mem_cons_self (a := z) (l := zs))]
      have e : eqV (V.int z) (V.int z) = true := by simp [eqV]
      rw [e]; rfl
    · have e : eqV (V.int z) (V.int i) = false := by simp [eqV, h]
      rw [e, Bool.false_or]
      by_cases h2 : i ∈ zs
      · rw [decide_eq_true h2, decide_eq_true (List.mem_cons_of_mem _ h2)]
      · rw [decide_eq_false h2, decide_eq_false fun q => (List.mem_cons.mp q).elim (fun z => h z.symm) h2]
theorem inVS (i : Str) : ∀ zs : List Str, inV (.str i) (zs.map V.str) = decide (i ∈ zs)
  | [] => by simp [inV]
  | z :: zs => by
    have ih := inVS i zs
    unfold inV at ih ⊢
    rw [List.map_cons, List.any_cons, ih]
    by_cases h : z = i
    · subst h
      rw [decide_eq_true (List.mem_cons_self (a := z) (l := zs))]
      have e : eqV (V.str z) (V.str z) = true := by simp [eqV]
      rw [e]; rfl
    · have e : eqV (V.str z) (V.str i) = false := by simp [eqV, h]
      rw [e, Bool.false_or]
      by_cases h2 : i ∈ zs
      · rw [decide_eq_true h2, decide_eq_true (List.mem_cons_of_mem _ h2)]
      · rw [decide_eq_false h2, decide_eq_false fun q => (List.mem_cons.mp q).elim (fun z => h z.symm) h2]
theorem flatVI (zs : List Int) : (zs.map V.int).all flatV = true := List.all_eq_true.mpr fun v hv => by
  obtain ⟨z, _, rfl⟩ := List.mem_map.mp hv
  rfl
theorem flatVS (zs : List Str) : (zs.map V.str).all flatV = true := List.all_eq_true.mpr fun v hv => by
  obtain ⟨z, _, rfl⟩ := List.mem_map.mp hv
  rfl
theorem os_in' (neg : Bool) : OpS K (rIn K neg) (dIn neg) := ⟨fun {B H x y p q QD Q} ex r1 r2 h k => by
  rcases h with ⟨i, zs, rfl, hq, h⟩ | ⟨s, ss, rfl, hq, h⟩
  · obtain ⟨a, vs, rfl, h2, h3⟩ := pitems_rp r2 hq
    cases RpA.ints_inv h3
    cases (show x = V.int i from r1)
    refine ⟨a, _, rfl, (h2.imp ex.sqT ex.sqL).symm, rfl, flatVI zs, ?_⟩
    rw [inVI]
    exact k _ B H _ h rfl (.refl ex)
  · obtain ⟨a, vs, rfl, h2, h3⟩ := pitems_rp r2 hq
    cases RpA.strs_inv h3
    cases (show x = V.str s from r1)
    refine ⟨a, _, rfl, (h2.imp ex.sqT ex.sqL).symm, rfl, flatVS ss, ?_⟩
    rw [inVS]
    exact k _ B H _ h rfl (.refl ex)⟩
theorem os_in : OpS K (rIn K false) (dIn false) := os_in' false
theorem os_notIn : OpS K (rIn K true) (dIn true) := os_in' true
/-! ### a sign in a text -/
def dInSign (neg : Bool) : P → P → (P → Prop) → Prop := fun p q Q => match p, q with
  | .str s, .str z => ∃ c : Nat, s = ⟨#[c]⟩ ∧ Q (.bl (if neg then !decide (c ∈ z.cps.toList) else decide (c ∈ z.cps.toList)))
  | _, _ => False
theorem os_insign : OpS K (fun x y H Q => ∃ (c : Nat) (z : Str), x = .str ⟨#[c]⟩ ∧ y = .str z ∧ Q (.bl (decide (c ∈ z.cps.toList))) H) (dInSign false) := ⟨fun {B H x y p q QD Q} ex r1 r2 h k => by
  unfold dInSign at h
  split at h
  · obtain ⟨c, rfl, h⟩ := h
    exact ⟨c, _, r1, r2, k _ B H _ h rfl (.refl ex)⟩
  · exact h.elim⟩
theorem os_notinsign : OpS K (fun x y H Q => ∃ (c : Nat) (z : Str), x = .str ⟨#[c]⟩ ∧ y = .str z ∧ Q (.bl (!decide (c ∈ z.cps.toList))) H) (dInSign true) := ⟨fun {B H x y p q QD Q} ex r1 r2 h k => by
  unfold dInSign at h
  split at h
  · obtain ⟨c, rfl, h⟩ := h
    exact ⟨c, _, r1, r2, k _ B H _ h rfl (.refl ex)⟩
  · exact h.elim⟩
end
end DL
set_option Elab.async false
set_option linter.all false
set_option maxRecDepth 100000
/-! dicts with int and text keys: a slot's own, and plain ones -/
namespace DL
open PySem PySem.Spec L2
def keyOf : P → Option Key
  | .int i => some (.inl i)
  | .str s => some (.inr s)
  | _ => none
def valP (kvs : List (Key × P)) (k : Key) : Option P := (kvs.find? fun kv => decide (kv.1 = k)).map (·.2)
def putP (kvs : List (Key × P)) (k : Key) (p : P) : List (Key × P) :=
  if (kvs.any fun kv => decide (kv.1 = k)) = true then kvs.map (fun kv => if kv.1 = k then (kv.1, p) else kv) else kvs ++ [(k, p)]
theorem valP_nil {k : Key} : valP [] k = none := rfl
theorem valP_cons (p : Key × P) (r : List (Key × P)) (k : Key) : valP (p :: r) k = if p.1 = k then some p.2 else valP r k := by
  unfold valP
  rw [List.find?_cons]
  by_cases h : p.1 = k
  · rw [decide_eq_true h, if_pos h]; rfl
  · rw [decide_eq_false h, if_neg h]
theorem any_valP (k : Key) : ∀ kvs : List (Key × P), (kvs.any fun kv => decide (kv.1 = k)) = (valP kvs k).isSome
  | [] => rfl
  | p :: r => by
    rw [List.any_cons, any_valP k r, valP_cons]
    by_cases h : p.1 = k
    · rw [decide_eq_true h, if_pos h]; rfl
    · rw [decide_eq_false h, if_neg h]; rfl
theorem valP_putP (k j : Key) (q : P) : ∀ kvs : List (Key × P), valP (putP kvs k q) j = if j = k then some q else valP kvs j := fun kvs => by
  unfold putP
  by_cases h : (kvs.any fun kv => decide (kv.1 = k)) = true
  · rw [if_pos h]
    have key : ∀ r : List (Key × P), valP (r.map fun kv => if kv.1 = k then (kv.1, q) else kv) j = (valP r j).map fun x => if j = k then q else x := fun r => by
      induction r with
      | nil => rfl
      | cons p r ih =>
        rw [List.map_cons, valP_cons, valP_cons, ih]
        by_cases h1 : p.1 = k
        · rw [if_pos h1]
          by_cases h2 : p.1 = j
          · rw [if_pos h2, if_pos h2]
            show some q = some (if j = k then q else p.2)
            rw [if_pos (h2.symm.trans h1)]
          · rw [if_neg h2, if_neg h2]
        · rw [if_neg h1]
          by_cases h2 : p.1 = j
          · rw [if_pos h2, if_pos h2]
            show some p.2 = some (if j = k then q else p.2)
            rw [if_neg (fun e => h1 (h2.trans e))]
          · rw [if_neg h2, if_neg h2]
    rw [key]
    by_cases hj : j = k
    · subst hj
      rw [any_valP] at h
      obtain ⟨x, hx⟩ := Option.isSome_iff_exists.mp h
      rw [hx, if_pos rfl]
      show some (if j = j then q else x) = _
      rw [if_pos rfl]
    · rw [if_neg hj]
      cases valP kvs j with
      | none => rfl
      | some x => show some (if j = k then q else x) = _; rw [if_neg hj]
  · rw [if_neg h]
    have key : ∀ r : List (Key × P), valP r k = none → valP (r ++ [(k, q)]) j = if j = k then some q else valP r j := fun r => by
      induction r with
      | nil =>
        intro _
        rw [List.nil_append, valP_cons]
        by_cases hj : j = k
        · rw [if_pos hj, if_pos hj.symm]
        · rw [if_neg hj, if_neg (fun e => hj e.symm)]
      | cons p r ih =>
        intro hr
        rw [valP_cons] at hr
        by_cases h1 : p.1 = k
        · rw [if_pos h1] at hr; cases hr
        · rw [if_neg h1] at hr
          rw [List.cons_append, valP_cons, valP_cons, ih hr]
          by_cases h2 : p.1 = j
          · rw [if_pos h2, if_pos h2, if_neg (fun e => h1 (h2.trans e))]
          · rw [if_neg h2, if_neg h2]
    refine key kvs ?_
    rw [any_valP] at h
    cases e : valP kvs k with
    | none => rfl
    | some x => rw [e] at h; exact absurd rfl h
theorem putP_len (kvs : List (Key × P)) (k : Key) (q : P) : (putP kvs k q).length ≤ kvs.length + 1 := by
  unfold putP
  split
  · rw [List.length_map]; omega
  · rw [List.length_append]; exact Nat.le_refl _
section
variable {K : PySem.W.Frag} {B : Hp}
theorem key_rp {p : P} {v : V} {k : Key} (h : keyOf p = some k) (r : Rp K B p v) : v = kV k := by
  cases p with
  | int i => cases h; exact r
  | str s => cases h; exact r
  | _ => cases h
theorem RpK.length : ∀ {ps : List (Key × P)} {vs : List (Key × V)}, RpK K B ps vs → vs.length = ps.length
  | [], _, h => by rw [show _ = [] from h]; rfl
  | (_, p) :: ps, _, ⟨v, r, e1, _, e3⟩ => by rw [e1, List.length_cons, List.length_cons, RpK.length e3]
theorem RpK.val (k : Key) : ∀ {ps : List (Key × P)} {vs : List (Key × V)}, RpK K B ps vs → (∃ p v, valP ps k = some p ∧ valV vs k = some v ∧ Rp K B p v) ∨ (valP ps k = none ∧ valV vs k = none)
  | [], _, h => by rw [show _ = [] from h]; exact .inr ⟨rfl, rfl⟩
  | (n, p) :: ps, _, ⟨v, r, e1, e2, e3⟩ => by
    subst e1
    rw [valP_cons]
    by_cases hn : n = k
    · rw [if_pos hn]
      exact .inl ⟨p, v, rfl, valV_pos hn, e2⟩
    · rw [if_neg hn, valV_neg hn]
      exact RpK.val k e3
theorem RpK.snoc {p : P} {v : V} (k : Key) (h : Rp K B p v) : ∀ {ps : List (Key × P)} {vs : List (Key × V)}, RpK K B ps vs → RpK K B (ps ++ [(k, p)]) (vs ++ [(k, v)])
  | [], _, e => by rw [show _ = [] from e]; exact ⟨v, [], rfl, h, rfl⟩
  | (n, q) :: ps, _, ⟨u, r, e1, e2, e3⟩ => by subst e1; exact ⟨u, r ++ [(k, v)], rfl, e2, RpK.snoc k h e3⟩
theorem RpK.repl {p : P} {v : V} (k : Key) (h : Rp K B p v) : ∀ {ps : List (Key × P)} {vs : List (Key × V)}, RpK K B ps vs → RpK K B (ps.map fun kv => if kv.1 = k then (kv.1, p) else kv) (vs.map fun kv => if kv.1 = k then (kv.1, v) else kv)
  | [], _, e => by rw [show _ = [] from e]; rfl
  | (n, q) :: ps, _, ⟨u, r, e1, e2, e3⟩ => by
    subst e1
    rw [List.map_cons, List.map_cons]
    simp only
    by_cases hn : n = k
    · rw [if_pos hn, if_pos hn]
      exact ⟨v, _, rfl, h, RpK.repl k h e3⟩
    · rw [if_neg hn, if_neg hn]
      exact ⟨u, _, rfl, e2, RpK.repl k h e3⟩
theorem RpK.any (k : Key) : ∀ {ps : List (Key × P)} {vs : List (Key × V)}, RpK K B ps vs → (vs.any fun kv => decide (kv.1 = k)) = ps.any fun kv => decide (kv.1 = k)
  | [], _, e => by rw [show _ = [] from e]; rfl
  | (n, q) :: ps, _, ⟨u, r, e1, e2, e3⟩ => by
    subst e1
    rw [List.any_cons, List.any_cons, RpK.any k e3]
theorem RpK.put {p : P} {v : V} (k : Key) (h : Rp K B p v) {ps : List (Key × P)} {vs : List (Key × V)} (e : RpK K B ps vs) : RpK K B (putP ps k p) (putK vs k v) := by
  unfold putP putK
  rw [RpK.any k e]
  split
  · exact RpK.repl k h e
  · exact RpK.snoc k h e
end
section
variable [Rf] {m : Bool} {pn : List Nat} {K : PySem.W.Frag} {te ti td ty : TE} {de dk dd : dE} {X : Cx} {o i e k : Expr} {pos pos' : Pos}
/-! ### {} -/
def dDNew : dO := fun env Q => Q (.od []) env
theorem own_newD {B H : Hp} {σ : L2.St} {env : Env} {G : Fp} {p : Addr} {us : List (Key × V)} {kvs : List (Key × P)} {H0 : Hp} {G0 : Fp} (w : Wd K B H σ env G) (h : H p = none) (h0 : H0 p = none) (r : RpK K B kvs us) :
    Wd K B (upd H p (.dK us)) σ env G ∧ Own K H0 G0 B (upd H p (.dK us)) G (.od kvs) (.ref p) [p] ∧ Gr B H B (upd H p (.dK us)) := by
  have g : Gr B H B (upd H p (.dK us)) := ⟨Ex.refl _, fun a u k => by rw [upd_ne (ne_of_none k h)]; exact k, fun a u k => by rw [upd_ne (ne_of_none (w.ex a u k) h)]; exact w.ex a u k, fun a u k n => n⟩
  refine ⟨w.gr g, ⟨⟨p, us, rfl, rfl, upd_same, r⟩, by simp, fun a ha => ?_, fun a ha => ?_, fun a ha i hi => ?_⟩, g⟩
  · rw [List.mem_singleton.mp ha]; exact w.ex.back h
  · rw [List.mem_singleton.mp ha]; exact .inr h0
  · rw [List.mem_singleton.mp ha] at hi; exact w.off h i hi
theorem snd_dnew : SndO m K tDNewK dDNew := ⟨fun {B H σ env G QD Q} w q kk => fun p hn => by
  obtain ⟨w2, o2, g2⟩ := own_newD (us := []) (kvs := []) (H0 := H) (G0 := G) w hn hn rfl
  exact kk _ env _ [p] B _ G q w2 o2 g2.stp (.gr g2)⟩
theorem do_dnew : DO m X (.Dict [] [] pos) tDNewK dDNew := ⟨pe_dnewK, snd_dnew⟩
/-! ### d[k], k in d, of plain dicts -/
def rDGet : R2 := fun x y H Q => ∃ a v, x = .ref a ∧ DGet H a y (some v) ∧ Q v H
def dDIx : P → P → (P → Prop) → Prop := fun p q Q => match p with
  | .dic kvs => ∃ k z, keyOf q = some k ∧ valP kvs k = some z ∧ Q z
  | _ => False
theorem os_dget : OpS K rDGet dDIx := ⟨fun {B H x y p q QD Q} ex r1 r2 h kk => by
  cases p with
  | dic kvs =>
    obtain ⟨k, z, hk, hz, h⟩ := h
    obtain ⟨a, us, rfl, g1, g2⟩ := r1
    rw [key_rp hk r2]
    rcases RpK.val k g2 with ⟨p, v, e1, e2, e3⟩ | ⟨e1, _⟩
    · rw [hz] at e1
      cases e1
      exact ⟨a, v, rfl, by rw [← e2]; exact DGet.k (ex a _ g1), kk v B H _ h e3 (.refl ex)⟩
    · rw [hz] at e1; cases e1
  | _ => exact h.elim⟩
theorem de_dix (hu : X.A.units + 64 < cLine) (ho : DE m X o td dd) (hi : DE m X i ty dk) (hs : NoSl i := by intro _ _; rfl) : DE m X (.Subscript o i pos) (tDGet td ty) (dOp dDIx dd dk) := ⟨pe_dget (by omega) ho.pe hi.pe hs, snd_op os_dget ho.sd hi.sd⟩
def rDIn (neg : Bool) : R2 := fun y x H Q => ∃ a o, x = .ref a ∧ DGet H a y o ∧ Q (.bl (if neg then !o.isSome else o.isSome)) H
def dDIn (neg : Bool) : P → P → (P → Prop) → Prop := fun q p Q => match p with
  | .dic kvs => ∃ k, keyOf q = some k ∧ Q (.bl (if neg then !(valP kvs k).isSome else (valP kvs k).isSome))
  | _ => False
theorem os_din (neg : Bool) : OpS K (rDIn neg) (dDIn neg) := ⟨fun {B H x y p q QD Q} ex r1 r2 h kk => by
  cases q with
  | dic kvs =>
    obtain ⟨k, hk, h⟩ := h
    obtain ⟨a, us, rfl, g1, g2⟩ := r2
    rw [key_rp hk r1]
    have e : (valV us k).isSome = (valP kvs k).isSome := by
      rcases RpK.val k g2 with ⟨p, v, e1, e2, e3⟩ | ⟨e1, e2⟩ <;> rw [e1, e2] <;> rfl
    refine ⟨a, _, rfl, DGet.k (ex a _ g1), ?_⟩
    rw [e]
    exact kk _ B H _ h rfl (.refl ex)
  | _ => exact h.elim⟩
theorem de_din (hu : X.A.units + 64 < cLine) (hi : DE m X i ty dk) (ho : DE m X o td dd) (h1 : behindInMarks .In o = false := by first | exact nobehind _ (by decide) (by decide) | rfl) : DE m X (.Compare i [.In] [o] pos) (tDIn ty td) (dOp (dDIn false) dk dd) := ⟨pe_cmp (pc_din (by omega) hi.pe ho.pe) h1, snd_op (os_din false) hi.sd ho.sd⟩
theorem de_dnin (hu : X.A.units + 64 < cLine) (hi : DE m X i ty dk) (ho : DE m X o td dd) (h1 : behindInMarks .NotIn o = false := by first | exact nobehind _ (by decide) (by decide) | rfl) : DE m X (.Compare i [.NotIn] [o] pos) (tDNotIn ty td) (dOp (dDIn true) dk dd) := ⟨pe_cmp (pc_dnotin (by omega) hi.pe ho.pe) h1, snd_op (os_din true) hi.sd ho.sd⟩
theorem dt_din (hu : X.A.units + 64 < cLine) (hi : DE m X i ty dk) (ho : DE m X o td dd) (h1 : behindInMarks .In o = false := by first | exact nobehind _ (by decide) (by decide) | rfl) : DT m X (.Compare i [.In] [o] pos) (tB (tDIn ty td)) (dB (dOp (dDIn false) dk dd)) := ⟨pt_cmp (pc_din (by omega) hi.pe ho.pe) h1, snd_B (snd_op (os_din false) hi.sd ho.sd)⟩
theorem dt_dnin (hu : X.A.units + 64 < cLine) (hi : DE m X i ty dk) (ho : DE m X o td dd) (h1 : behindInMarks .NotIn o = false := by first | exact nobehind _ (by decide) (by decide) | rfl) : DT m X (.Compare i [.NotIn] [o] pos) (tB (tDNotIn ty td)) (dB (dOp (dDIn true) dk dd)) := ⟨pt_cmp (pc_dnotin (by omega) hi.pe ho.pe) h1, snd_B (snd_op (os_din true) hi.sd ho.sd)⟩
/-! ### d[k] = e, d a slot's own -/
def odQ (q : P) : Option (Option D) → (Key → List (Key × P) → Prop) → Prop
  | some (some (.od kvs)), R => ∃ k, keyOf q = some k ∧ R k kvs
  | _, _ => False
theorem odQ_is {q : P} {s : Option (Option D)} {R : Key → List (Key × P) → Prop} (h : odQ q s R) : ∃ k kvs, keyOf q = some k ∧ s = some (some (.od kvs)) ∧ R k kvs := by
  unfold odQ at h
  split at h
  · obtain ⟨k, h1, h2⟩ := h; exact ⟨k, _, h1, rfl, h2⟩
  · exact h.elim
def dDPut (i : Nat) (dk de : dE) : dS := fun Dd env => de env fun p e1 => match e1[i]? with
  | some (some (.od _)) => dk e1 fun q e2 => odQ q e2[i]? fun k kvs => kvs.length < sizeLine ∧ Dd.nx (e2.set i (some (.od (putP kvs k p))))
  | _ => False
theorem snd_dput {i : Nat} (hk : SndE m K ti dk) (h : SndE m K te de) : SndS pn K (sDPut (tVar i) ti te) (dDPut i dk de) := ⟨fun {B H σ env G Dd D} w q n r k1 k2 => by
  refine h.run w q fun p e1 v2 B1 H1 G1 q1 w1 r1 s1 _ => ?_
  change (match e1[i]? with | some (some (.od _)) => dk e1 _ | _ => False) at q1
  split at q1
  · rename_i ps0 hd
    obtain ⟨v, h1, a0, vs0, _, rfl, h4, _⟩ := w1.sl i _ hd
    refine ⟨.ref a0, h1, ?_⟩
    refine hk.run w1 q1 fun q e2 v3 B2 H2 G2 q2 w2 r2 s2 _ => ?_
    obtain ⟨k, kvs, hkey, hd2, hlen, q2⟩ := odQ_is q2
    obtain ⟨v4, g1, a1, us, g2, g3, g4, g5⟩ := w2.sl i _ hd2
    rw [h1] at g1
    cases g1
    cases g3
    rw [key_rp hkey r2]
    refine ⟨a0, _, rfl, DPut.k (v := v2) g4 (by rw [RpK.length g5]; exact hlen), ?_⟩
    obtain ⟨w3, s3⟩ := w2.chg (d' := .od (putP kvs k p)) (o := .dK (putK us k v2)) (l := a0) hd2 h1 (by rw [g2]; exact List.mem_cons_self) ⟨a0, _, g2, rfl, upd_same, RpK.put k (Rp.mono s2.ex p r1) g5⟩
    exact n _ σ B2 _ G2 q2 w3 ((s1.trans s2).trans s3) .refl
  · exact q1.elim⟩
theorem ds_dput {i : Nat} (hu : X.A.units + 64 < cLine) (ho : PE X o (tVar i)) (hk : DE false X k ti dk) (he : DE false X e te de)
    (hs : swapsWith e (some (.Subscript o k pos')) pos.line X.env = pure false := by rfl) :
    DS pn X (.Assign [.Subscript o k pos'] e pos) (sDPut (tVar i) ti te) (dDPut i dk de) := ⟨ps_dput (by omega) ho hk.pe he.pe hs, snd_dput hk.sd he.sd⟩
end
end DL
/-! ### list(range(n)), i >> j, try: name = f(..) -/
namespace DL
open PySem PySem.Spec L2
section
variable [Rf] {m : Bool} {K : PySem.W.Frag} {ta : TA} {te tb : TE} {da : dA} {de db : dE} {X : Cx} {a b e : Expr} {pos p1 p2 pos2 : Pos}
def dLstRg (de : dE) : dO := fun env Q => de env fun p e => match p with
  | .int n => (n < 16777216 ∧ -16777216 < n) ∧ Q (.ol (rngP 0 n.toNat)) e
  | _ => False
theorem rpa_rng {B : Hp} (n : Nat) : RpA K B (rngP 0 n) ((List.range n).map fun (i : Nat) => V.int (0 + (i : Int))) := by
  have key : ∀ l : List Nat, RpA K B (l.map fun (i : Nat) => P.int (0 + (i : Int))) (l.map fun (i : Nat) => V.int (0 + (i : Int))) := fun l => by
    induction l with
    | nil => rfl
    | cons x l ih => exact ⟨_, _, rfl, rfl, ih⟩
  exact key _
theorem snd_lstRg (h : SndE m K te de) : SndO m K (tLstRg (tRg1 te)) (dLstRg de) := ⟨fun {B H σ env G QD Q} w q k => h.run w q fun p e v B1 H1 G1 q1 w1 r1 s1 u1 => by
  cases p with
  | int n =>
    obtain ⟨hn, q1⟩ := q1
    cases (show v = V.int n from r1)
    refine ⟨n, rfl, ⟨by omega, by omega, by omega, by omega, by omega⟩, fun p hp => ?_⟩
    have er : rgV 0 n = (List.range n.toNat).map fun (i : Nat) => V.int (0 + (i : Int)) := by unfold rgV; rw [Int.sub_zero]
    rw [er]
    obtain ⟨w2, o2, g2⟩ := own_new (H0 := H) (G0 := G) w1 hp (s1.back hp) (rpa_rng n.toNat)
    exact k _ e _ [p] B1 _ G1 q1 w2 o2 (s1.trans g2.stp) (u1.trans (.gr g2))
  | _ => exact q1.elim⟩
theorem do_listrg (hc : X.calm = true) (hg : Gl X "list") (hm : X.mg "list" = none) (hg2 : Gl X "range") (hm2 : X.mg "range" = none) (h : DE m X a te de)
    (na : starEach [a] X.env = (false, eval a X.env) :: starEach [] X.env := by rfl) (na2 : starEach [.Call (.Name "range" p1) [a] [] p2] X.env = (false, eval (.Call (.Name "range" p1) [a] [] p2) X.env) :: starEach [] X.env := by rfl) :
    DO m X (.Call (.Name "list" pos) [.Call (.Name "range" p1) [a] [] p2] [] pos2) (tLstRg (tRg1 te)) (dLstRg de) := ⟨pe_listRg hc hg hm (prg_1 hg2 hm2 h.pe na) na2, snd_lstRg h.sd⟩
def dShr : P → P → (P → Prop) → Prop := fun p q Q => match p, q with
  | .int i, .int j => 0 ≤ j ∧ Q (.int (i / 2 ^ j.toNat))
  | _, _ => False
theorem os_shr : OpS K (rI (fun _ j => 0 ≤ j) fun i j => .int (i / 2 ^ j.toNat)) dShr := ⟨fun {B H x y p q QD Q} ex r1 r2 h k => by
  unfold dShr at h
  split at h
  · rename_i i j
    exact ⟨i, j, r1, r2, h.1, k _ B H _ h.2 rfl (.refl ex)⟩
  · exact h.elim⟩
end
section
variable [rI : Rf] {pn : List Nat} {K : PySem.W.Frag} {te : TE} {de : dE} {ta : TA} {da : dA} {X : Cx} {fs : FSp} {fx : FXp} {C : Addr}
variable {tb : TE} {db : dE} {c : Value} {i j : Nat} {ts : Addr → Value → Option Addr → TS} {dsu : Addr → Value → Option Addr → Xn → Addr → dS} {RD : Xn → Prop} {E : XK} {st : Stmt} {suite : List Stmt}
theorem ds_tryAF (hE : HE X.K RD E) (hp : i ∉ pn) (hpj : j ∉ pn) (ha : DA true X (callArgs (tryVal st)) ta da) (hps : Suite X suite ts → PS X st (fun D σ H => tAsg (tCallS (spX X.K fs fx) (WE (wAs X.K c i ts (WO E) D)) ta) (gName j) D σ H)) (hsu : SuiteD pn X suite ts dsu) :
    DS pn X st (fun D σ H => tAsg (tCallS (spX X.K fs fx) (WE (wAs X.K c i ts (WO E) D)) ta) (gName j) D σ H) (dTryA X.K c i j (cxCall fs fx da) (fun a x Dd env => ∀ dd, dsu a (.ref x.C) (some dd) x dd Dd env) RD) := ds_tryA hE hp hpj (cx_call ha.sd) hps hsu
end
end DL
/-! ### xs[::-1] -/
namespace DL
open PySem PySem.Spec L2
section
variable [Rf] {m : Bool} {K : PySem.W.Frag} {te : TE} {de : dE} {X : Cx} {e : Expr} {pos p1 p2 p3 : Pos}
def dRevL (de : dE) : dO := fun env Q => de env fun p e => match plst p with
  | some ps => Q (.ol ps.reverse) e
  | none => False
theorem snd_revL (h : SndE m K te de) : SndO m K (tRevL K te) (dRevL de) := ⟨fun {B H σ env G QD Q} w q k => h.run w q fun p e v B1 H1 G1 q1 w1 r1 s1 u1 => by
  change (match plst p with | some ps => QD (.ol ps.reverse) e | none => False) at q1
  split at q1
  · rename_i ps hp
    obtain ⟨a, vs, rfl, h2, h3⟩ := plst_rp r1 hp
    refine ⟨a, vs, rfl, w1.ex.sqL h2, fun p hn => ?_⟩
    obtain ⟨w2, o2, g2⟩ := own_new (H0 := H) (G0 := G) w1 hn (s1.back hn) h3.reverse
    exact k _ e _ [p] B1 _ G1 q1 w2 o2 (s1.trans g2.stp) (u1.trans (.gr g2))
  · exact q1.elim⟩
theorem do_revL {k : _} (h : DE m X e te de) : DO m X (.Subscript e (.Slice none none (some (.UnaryOp .USub (.Constant (.int 1) k p1) p2)) p3) pos) (tRevL X.K te) (dRevL de) := ⟨pe_revL h.pe, snd_revL h.sd⟩
end
end DL
/-! ### a statement behind which a slot's own object is plain -/
namespace DL
open PySem PySem.Spec L2
section
variable [Rf] {pn : List Nat} {K : PySem.W.Frag} {X : Cx} {st : Stmt} {ts : TS} {ds : dS}
def dFz (i : Nat) (ds : dS) : dS := fun Dd env => ds { Dd with nx := fun e => dVarF i e fun _ e2 => Dd.nx e2 } env
theorem snd_fz (i : Nat) (h : SndS pn K ts ds) : SndS pn K ts (dFz i ds) := ⟨fun {B H σ env G Dd D} w q n r k1 k2 => h.run w q (fun env' σ' B' H' G' q' w' s' p' => by
  have hv := (snd_varF (K := K) (i := i)).run (QD := fun _ e => Dd.nx e) (Q := fun _ H => D.nx σ' H) w' q' (fun p e v B1 H1 G1 q1 w1 r1 s1 _ => n e σ' B1 H1 G1 q1 w1 (s'.trans s1) p')
  obtain ⟨v, _, hv⟩ := hv
  exact hv) r k1 k2⟩
theorem ds_fz (i : Nat) (h : DS pn X st ts ds) : DS pn X st ts (dFz i ds) := ⟨h.pe, snd_fz i h.sd⟩
end
end DL
set_option Elab.async false
set_option linter.all false
set_option maxRecDepth 100000
/-! lists: any, insert, clear, append to an item; a range that is held -/
namespace DL
open PySem PySem.Spec L2
section
variable [Rf] {m : Bool} {pn : List Nat} {K : PySem.W.Frag} {te ti td ty tj : TE} {ta : TA} {da : dA} {de dk dj : dE} {X : Cx} {o i e k : Expr} {pos pos' : Pos}
def dAny (ps : List P) (Q : P → Prop) : Prop := match ps with
  | [p] => (match plst p with
    | some xs => (match boolsP xs with
      | some ns => Q (.bl (ns.any id))
      | none => False)
    | none => False)
  | _ => False
theorem cs_any : CbS K (rAny K) dAny := ⟨fun {B H xs ps QD Q} e r q k => by
  unfold dAny at q
  split at q
  · rename_i p
    split at q
    · rename_i ys hp
      split at q
      · rename_i ns hn
        obtain ⟨v, rfl, rv⟩ := one_rp r
        obtain ⟨a, vs, rfl, h1, h2⟩ := plst_rp rv hp
        rw [bools_rp h2 hn] at h1
        exact ⟨a, ns, rfl, e.sqL h1, k _ B H _ q rfl (.refl e)⟩
      · exact q.elim
    · exact q.elim
  · exact q.elim⟩
/-! ### i.clear() -/
def dClr (i : Nat) : dS := fun Dd env => match env[i]? with
  | some (some (.ol _)) => Dd.nx (env.set i (some (.ol [])))
  | some (some (.oll _)) => Dd.nx ((env.set i none).set i (some (.ol [])))
  | _ => False
theorem snd_clr {i : Nat} : SndS pn K (tDrop (tBM0 K "list" rClear (tVar i))) (dClr i) := ⟨fun {B H σ env G Dd D} w q n r k1 k2 => by
  unfold dClr at q
  split at q
  · rename_i ps hd
    obtain ⟨v, h1, a0, vs, g2, rfl, h4, _⟩ := w.sl i _ hd
    refine ⟨.ref a0, h1, .inl ⟨rfl, _, SqL.of h4⟩, a0, vs, rfl, rfl, h4, ?_⟩
    obtain ⟨w2, s2⟩ := w.chg (d' := .ol []) (o := .lst []) (l := a0) hd h1 (by rw [g2]; exact List.mem_cons_self) ⟨a0, [], g2, rfl, upd_same, rfl⟩
    exact n _ σ B _ G q w2 s2 .refl
  · rename_i pss hd
    obtain ⟨v, h1, a0, as, g2, rfl, h4, h5, h6⟩ := w.sl i _ hd
    refine ⟨.ref a0, h1, .inl ⟨rfl, _, SqL.of h4⟩, a0, _, rfl, rfl, h4, ?_⟩
    have nB : B a0 = none := w.nb i a0 (by rw [g2]; exact List.mem_cons_self)
    have hlt := env_lt hd
    have w1 := w.drop i
    have eB : Ex B (upd H a0 (.lst [])) := fun a u h => by rw [upd_ne (ne_of_none h nB)]; exact w.ex a u h
    refine n _ σ B (upd H a0 (.lst [])) (fun j => if j = i then [a0] else G j) q ?_ ?_ .refl
    · refine ⟨⟨eB, fun j d2 h => ?_, fun j hn => ?_, fun j => ?_, fun j j' a ha hb => ?_, fun j a ha => ?_, by rw [List.length_set, List.length_set]; exact w.len⟩, w.rf⟩
      · rcases set_some h with ⟨rfl, e2, _⟩ | ⟨nj, h⟩
        · cases e2
          refine ⟨.ref a0, h1, ?_⟩
          rw [if_pos rfl]
          exact ⟨a0, [], rfl, rfl, upd_same, rfl⟩
        · rw [List.getElem?_set_ne nj] at h
          obtain ⟨v', k1, k2⟩ := w.sl j d2 h
          refine ⟨v', k1, ?_⟩
          rw [if_neg fun q => nj q.symm]
          refine RpD.mono (Ex.refl B) k2 fun a ha u hu => ?_
          rw [upd_ne fun q => nj (w.dj i j a (by rw [q, g2]; exact List.mem_cons_self) ha)]
          exact hu
      · by_cases hj : j = i
        · subst hj
          exact absurd (List.getElem?_set_self (by rw [List.length_set]; exact hlt)) (hn _)
        · rw [if_neg hj]
          refine w.no j fun d2 h => hn d2 ?_
          rw [List.getElem?_set_ne fun q => hj q.symm, List.getElem?_set_ne fun q => hj q.symm]
          exact h
      · split
        · simp
        · exact w.nd j
      · split at ha <;> split at hb
        · rename_i x y; rw [x, y]
        · rename_i x y
          rw [List.mem_singleton.mp ha] at hb
          exact absurd (w.dj i j' a0 (by rw [g2]; exact List.mem_cons_self) hb).symm y
        · rename_i x y
          rw [List.mem_singleton.mp hb] at ha
          exact absurd (w.dj i j a0 (by rw [g2]; exact List.mem_cons_self) ha).symm x
        · exact w.dj j j' a ha hb
      · split at ha
        · rw [List.mem_singleton.mp ha]; exact nB
        · exact w.nb j a ha
    · refine ⟨Ex.refl _, fun a u h nn => ?_, fun j a h => ?_, fun _ _ _ h _ => h, fun a u h => ?_⟩
      · rw [upd_ne fun q => nn i (by rw [q, g2]; exact List.mem_cons_self)]; exact h
      · split at h
        · rw [List.mem_singleton.mp h]; exact .inl ⟨i, by rw [g2]; exact List.mem_cons_self⟩
        · exact .inl ⟨j, h⟩
      · by_cases q : a = a0
        · subst q; exact ⟨_, upd_same⟩
        · exact ⟨u, by rw [upd_ne q]; exact h⟩
  · exact q.elim⟩
theorem ds_clr {i : Nat} {o : Expr} {apos cpos : Pos} (h : PE X (.Call (.Attribute o "clear" apos) [] [] cpos) (tBM0 X.K "list" rClear (tVar i)))
    (hs : swapsWith (.Call (.Attribute o "clear" apos) [] [] cpos) none pos.line X.env = pure false := by rfl) :
    DS pn X (.Expr (.Call (.Attribute o "clear" apos) [] [] cpos) pos) (tDrop (tBM0 X.K "list" rClear (tVar i))) (dClr i) := ⟨ps_expr h hs, snd_clr⟩
/-! ### i.insert(k, e) -/
abbrev rIns : V → List V → Hp → VK → Prop := fun x vs H Q => ∃ (l : Addr) (xs : List V) (i : Int) (y : V), x = .ref l ∧ vs = [.int i, y] ∧ H l = some (.lst xs) ∧ xs.length < sizeLine ∧ 0 ≤ i ∧ i < 2 ^ 63 ∧ Q .non (upd H l (.lst (xs.take i.toNat ++ [y] ++ xs.drop i.toNat)))
def insQ (as : List AR) (od : Option (Option D)) (f : Int → P → List P → Prop) : Prop := match as, od with
  | [.inl (.int k), .inl p], some (some (.ol ps)) => f k p ps
  | _, _ => False
theorem insQ_is {as : List AR} {od : Option (Option D)} {f : Int → P → List P → Prop} (h : insQ as od f) : ∃ k p ps, as = [.inl (.int k), .inl p] ∧ od = some (some (.ol ps)) ∧ f k p ps := by
  unfold insQ at h
  split at h
  · exact ⟨_, _, _, rfl, rfl, h⟩
  · exact h.elim
def dIns (i : Nat) (da : dA) : dS := fun Dd env => match env[i]? with
  | some (some (.ol _)) => da env fun as e => insQ as e[i]? fun k p ps => (0 ≤ k ∧ k < 2 ^ 63 ∧ ps.length < sizeLine) ∧ Dd.nx (e.set i (some (.ol (ps.take k.toNat ++ [p] ++ ps.drop k.toNat))))
  | _ => False
theorem snd_ins {i : Nat} (h : SndA m K ta da) : SndS pn K (tDrop (tBM K "list" rIns (tVar i) ta)) (dIns i da) := ⟨fun {B H σ env G Dd D} w q n r k1 k2 => by
  unfold dIns at q
  split at q
  · rename_i ps0 hd
    obtain ⟨v, h1, a0, vs0, _, rfl, h4, _⟩ := w.sl i _ hd
    refine ⟨.ref a0, h1, .inl ⟨rfl, _, SqL.of h4⟩, ?_⟩
    refine h.run w q fun as e vs2 B1 H1 G1 q1 w1 r1 s1 _ => ?_
    obtain ⟨kk, p, ps, rfl, hd1, ⟨z0, z1, z2⟩, q1⟩ := insQ_is q1
    obtain ⟨v3, g1, a1, vs, g2, g3, g4, g5⟩ := w1.sl i _ hd1
    rw [h1] at g1
    cases g1
    cases g3
    obtain ⟨y1, ys1, e1, e2, y2, ys2, e3, e4, e5⟩ := r1
    cases (show ys2 = [] from e5)
    subst e3 e1
    cases (show y1 = V.int kk from e2)
    refine ⟨a0, vs, kk, y2, rfl, rfl, g4, by rw [g5.length]; exact z2, z0, z1, ?_⟩
    obtain ⟨w2, s2⟩ := w1.chg (d' := .ol (ps.take kk.toNat ++ [p] ++ ps.drop kk.toNat)) (o := .lst (vs.take kk.toNat ++ [y2] ++ vs.drop kk.toNat)) (l := a0) hd1 h1 (by rw [g2]; exact List.mem_cons_self) ⟨a0, _, g2, rfl, upd_same, ((g5.take _).append (RpA.one e4)).append (g5.drop _)⟩
    exact n _ σ B1 _ G1 q1 w2 (s1.trans s2) .refl
  · exact q.elim⟩
theorem ds_ins {i : Nat} {o e1 e2 : Expr} {apos cpos : Pos} (h : PA X [e1, e2] ta → PE X (.Call (.Attribute o "insert" apos) [e1, e2] [] cpos) (tBM X.K "list" rIns (tVar i) ta)) (ha : DA m X [e1, e2] ta da)
    (hs : swapsWith (.Call (.Attribute o "insert" apos) [e1, e2] [] cpos) none pos.line X.env = pure false := by rfl) :
    DS pn X (.Expr (.Call (.Attribute o "insert" apos) [e1, e2] [] cpos) pos) (tDrop (tBM X.K "list" rIns (tVar i) ta)) (dIns i da) := ⟨ps_expr (h ha.pe) hs, snd_ins ha.sd⟩
/-! ### i[j].append(e), of a list of own lists -/
def dAppI (i : Nat) (dj de : dE) : dS := fun Dd env => match env[i]? with
  | some (some (.oll _)) => dj env fun q1 e2 => ixQQ q1 e2[i]? fun k1 pss => ∃ j1 ps, ixN pss.length k1 = some j1 ∧ pss[j1]? = some ps ∧ de e2 fun p e3 => e3[i]? = e2[i]? ∧ ps.length < sizeLine ∧ Dd.nx (e3.set i (some (.oll (pss.set j1 (ps ++ [p])))))
  | _ => False
theorem snd_appI {i : Nat} (hj : SndE true K tj dj) (h : SndE true K te de) : SndS pn K (tDrop (tBM K "list" rAppend (tOp (rIxL K) (tVar i) tj) (tCons te tNil))) (dAppI i dj de) := ⟨fun {B H σ env G Dd D} w q n r k1 k2 => by
  unfold dAppI at q
  split at q
  · rename_i pss0 hd
    obtain ⟨v, h1, a0, as0, hG, rfl, h4, h5, h6⟩ := w.sl i _ hd
    refine ⟨.ref a0, h1, ?_⟩
    refine hj.run w q fun qq e2 v3 B2 H2 G2 q2 w2 r2 s2 u2 => ?_
    obtain ⟨rfl, rfl, g2⟩ := u2 rfl
    obtain ⟨kk, pss, rfl, hd2, j1, ps, x1, x2, q2⟩ := ixQQ_is q2
    rw [hd] at hd2
    cases hd2
    obtain ⟨v4, z1, a1, as, z2, z3, z4, z5, z6⟩ := w2.sl i _ hd
    rw [h1] at z1; cases z1
    cases z3
    rw [hG] at z2; cases z2
    have hj1 : j1 < as0.length := by rw [h5]; exact (List.getElem?_eq_some_iff.mp x2).1
    have ha1 : as0[j1]? = some as0[j1] := List.getElem?_eq_getElem hj1
    obtain ⟨us0, f0, _⟩ := z6 j1 _ ps ha1 x2
    refine ⟨a0, as0.map V.ref, kk, .ref as0[j1], rfl, r2, SqL.of z4, ?_, .inl ⟨rfl, _, SqL.of f0⟩, ?_⟩
    · unfold atI
      rw [List.length_map, h5, x1]
      show (as0.map V.ref)[j1]? = _
      rw [List.getElem?_map, ha1]; rfl
    refine h.run w2 q2 fun p e3 v5 B3 H3 G3 q4 w3 r3 s3 u3 => ?_
    obtain ⟨rfl, rfl, g3⟩ := u3 rfl
    obtain ⟨_, hlen, q4⟩ := q4
    obtain ⟨v6, t1, a3, as3, t2, t3, t4, t5, t6⟩ := w3.sl i _ hd
    rw [h1] at t1; cases t1
    cases t3
    rw [hG] at t2; cases t2
    obtain ⟨us, f1, f2⟩ := t6 j1 _ ps ha1 x2
    refine ⟨as0[j1], us, v5, rfl, rfl, f1, by rw [f2.length]; exact hlen, ?_⟩
    have nd : (a0 :: as0).Nodup := by have := w3.nd i; rw [hG] at this; exact this
    have hm : as0[j1] ∈ as0 := List.getElem_mem hj1
    obtain ⟨w4, s4⟩ := w3.chg (d' := .oll (pss0.set j1 (ps ++ [p]))) (o := .lst (us ++ [v5])) (l := as0[j1]) hd h1 (by rw [hG]; exact List.mem_cons_of_mem _ hm) ⟨a0, as0, hG, rfl, by
        rw [upd_ne fun q => (List.nodup_cons.mp nd).1 (by rw [q]; exact hm)]; exact t4, by rw [List.length_set]; exact t5, fun ii b qs g1 g2 => by
        by_cases hii : j1 = ii
        · subst hii
          rw [ha1] at g1
          cases g1
          rw [List.getElem?_set_self (by rw [← t5]; exact hj1)] at g2
          cases g2
          exact ⟨_, upd_same, f2.append (RpA.one r3)⟩
        · rw [List.getElem?_set_ne hii] at g2
          obtain ⟨ws, c1, c2⟩ := t6 ii b qs g1 g2
          refine ⟨ws, ?_, c2⟩
          rw [upd_ne fun q => ?_]
          · exact c1
          · obtain ⟨hl, he⟩ := List.getElem?_eq_some_iff.mp g1
            have : as0[ii] = as0[j1] := by rw [he, q]
            exact hii ((List.getElem_inj (List.nodup_cons.mp nd).2).mp this).symm⟩
    exact n _ σ B3 _ G3 q4 w4 ((s2.trans s3).trans s4) .refl
  · exact q.elim⟩
theorem ds_appI {i : Nat} {o c : Expr} {apos cpos : Pos} (h : PE X c tj → PA X [e] (tCons te tNil) → PE X (.Call (.Attribute o "append" apos) [e] [] cpos) (tBM X.K "list" rAppend (tOp (rIxL X.K) (tVar i) tj) (tCons te tNil))) (hj : DE true X c tj dj) (he : DE true X e te de)
    (hs : swapsWith (.Call (.Attribute o "append" apos) [e] [] cpos) none pos.line X.env = pure false := by rfl) (hs2 : starEach [e] X.env = (false, eval e X.env) :: starEach [] X.env := by rfl) :
    DS pn X (.Expr (.Call (.Attribute o "append" apos) [e] [] cpos) pos) (tDrop (tBM X.K "list" rAppend (tOp (rIxL X.K) (tVar i) tj) (tCons te tNil))) (dAppI i dj de) := ⟨ps_expr (h hj.pe (pa_cons he.pe pa_nil hs2)) hs, snd_appI hj.sd he.sd⟩
/-! ### a range that is held -/
abbrev rRng1 : List V → Hp → VK → Prop := fun vs H Q => ∃ n : Nat, vs = [V.int (n : Int)] ∧ ∀ p, H p = none → Q (.ref p) (upd H p (.rng 0 (n : Int)))
theorem cr_rng1 : CallR X (.type "range") rRng1 := by
  intro pins s σ H vs us Q I rv ⟨n, e0, q⟩
  subst e0
  cases rv with
  | cons r rr =>
    cases rr
    obtain ⟨t, rfl⟩ := r
    have old : ∀ (b : Addr) (u : Obj), s.heap.get? b = some u → (s.heap.push { cls := .type "range", data := .fields #[.int 0 s.toks, .int (n : Int) t, .int 1 (s.toks + 1)] }).get? b = some u := fun b u g => Heap.get?_push_of_some _ g
    have I2 := I.laid (t' := s.toks + 1 + 1) (o := .rng 0 (n : Int)) old (Nat.le_refl _) ⟨s.toks, t, s.toks + 1, Heap.get?_push_size _ rfl⟩
    exact call_range_1 ⟨.ref s.heap.objs.size, _, I2, rfl, q _ (I.hok.fresh (Nat.le_refl _))⟩
def iRngV (te : TE) : TI := fun σ H R => te σ H fun v H1 => ∃ (a : Addr) (n : Nat), v = .ref a ∧ H1 a = some (.rng 0 (n : Int)) ∧ (n : Int) < 2 ^ 62 ∧ R (Itr 0 n) H1
theorem pi_rngV {tg c : Expr} (hc : PE X c te) : PI X tg c (iRngV te) := ⟨fun pins s σ H R I h => by
  refine thn (hc.run pins s σ H _ I h) fun v s1 h2 => ?_
  obtain ⟨y, H1, I1, r1, a, n, rfl, ha, hn, q⟩ := h2
  obtain rfl : v = Value.ref a := r1
  obtain ⟨t1, t2, t3, ho⟩ := I1.hok a _ ha
  have hsz : Builtin.Range.rangeSize 0 (n : Int) 1 = (n : Int) := by
    rw [rangeSize_one]
    split <;> omega
  refine wpAny_pyIter_range ho (small_one (by omega) (by omega) (by omega) hn) ?_
  rw [hsz]
  refine pi_one I1 _ (turn_range _ 0 n) ?_ q
  show IsRangeIter _ _ ((0 : Int) + ((0 : Nat) : Int) * 1) ((n : Int) - ((0 : Nat) : Int)) 1
  rw [show (0 : Int) + ((0 : Nat) : Int) * 1 = 0 from rfl, show (n : Int) - ((0 : Nat) : Int) = n by omega]
  exact Heap.get?_push_size _ rfl⟩
def dRngC (ps : List P) (Q : P → Prop) : Prop := match ps with
  | [.int j] => 0 ≤ j ∧ Q (.rng j.toNat)
  | _ => False
theorem cs_rngC : CbS K rRng1 dRngC := ⟨fun {B H xs ps QD Q} e r q k => by
  unfold dRngC at q
  split at q
  · rename_i j
    obtain ⟨h0, q⟩ := q
    obtain ⟨n, rfl⟩ := Int.eq_ofNat_of_zero_le h0
    obtain ⟨v, rfl, rv⟩ := one_rp r
    cases (show v = V.int (n : Int) from rv)
    refine ⟨n, rfl, fun p hp => ?_⟩
    exact k _ _ _ _ q ⟨p, rfl, by rw [Int.toNat_natCast]; exact upd_same⟩ (gr_new (o := .rng 0 (n : Int)) e hp)
  · exact q.elim⟩
def diRV (de : dE) : dI := fun env Q => de env fun p e => match p with
  | .rng n => (n : Int) < 2 ^ 62 ∧ Q (rngP 0 n) e
  | _ => False
theorem snd_irV (h : SndE m K te de) : SndI m K (iRngV te) (diRV de) := ⟨fun {B H σ env G QD R} w q k => h.run w q fun p e v B1 H1 G1 q1 w1 r1 s1 u1 => by
  cases p with
  | rng n =>
    obtain ⟨a, rfl, ha⟩ := r1
    exact ⟨a, n, rfl, w1.ex a _ ha, q1.1, k _ e B1 H1 G1 _ q1.2 w1 s1 u1 itok_rng⟩
  | _ => exact q1.elim⟩
theorem di_rngV {tg c : Expr} (h : DE m X c te de) : DI m X tg c (iRngV te) (diRV de) := ⟨pi_rngV h.pe, snd_irV h.sd⟩
/-! ### for p in h: p[0] = 0, of a list of own lists -/
def set0 (ps : List P) : List P := ps.set 0 (.int 0)
def dForSet (h p : Nat) : dS := fun Dd env => match env[h]? with
  | some (some (.oll pss)) => (h ≠ p ∧ p < env.length ∧ ∀ ps ∈ pss, ps ≠ []) ∧ Dd.nx ((env.set h (some (.oll (pss.map set0)))).set p none)
  | _ => False
theorem Wd.sig {B H : Hp} {σ : L2.St} {env : Env} {G : Fp} {p : Nat} {x : Option V} (w : Wd K B H σ env G) (hp : ∀ d, env[p]? ≠ some (some d)) : Wd K B H (σ.set p x) env G :=
  ⟨⟨w.ex, fun j d e => by
    obtain ⟨v, g1, g2⟩ := w.sl j d e
    refine ⟨v, ?_, g2⟩
    rw [List.getElem?_set_ne (fun q => hp d (by rw [q]; exact e))]
    exact g1, w.no, w.nd, w.dj, w.nb, by rw [List.length_set]; exact w.len⟩, w.rf⟩
theorem snd_forSet {h p : Nat} (hpp : p ∉ pn) : SndS pn K (tFor (iList K (tVar h)) (gName p) (tAsg (tC (.int 0)) (gSub (tVar p) (tC (.int 0)) rSetL))) (dForSet h p) := ⟨fun {B H σ env G Dd D} w q n r k1 k2 => by
  unfold dForSet at q
  split at q
  · rename_i pss hd
    obtain ⟨⟨hne, hpl, hnn⟩, q⟩ := q
    obtain ⟨v, h1, a0, as0, hG, rfl, h4, h5, h6⟩ := w.sl h _ hd
    have hσp : p < σ.length := by rw [← w.len]; exact hpl
    let G0 : Fp := fun j => if j = p then [] else G j
    have hG0 : G0 h = a0 :: as0 := by show (if h = p then [] else G h) = _; rw [if_neg hne]; exact hG
    have hdp : (env.set p none)[h]? = some (some (.oll pss)) := by rw [List.getElem?_set_ne (fun q => hne q.symm)]; exact hd
    let Wx : Nat → L2.St → Hp → Prop := fun i σ' H' => ∃ qss : List (List P), (∀ j, qss[j]? = if j < i then (pss[j]?).map set0 else pss[j]?) ∧ Wd K B H' σ' ((env.set p none).set h (some (.oll qss))) G0 ∧ Stp B H G B H' G0 ∧ Pin pn σ σ' ∧ σ'[h]? = some (some (.ref a0))
    refine ⟨.ref a0, h1, a0, rfl, ⟨_, SqL.of h4⟩, fun i mm σ' H' => mm = pss.length - i ∧ i ≤ pss.length ∧ Wx i σ' H', ⟨_, rfl, Nat.zero_le _, pss, fun j => (if_neg (Nat.not_lt_zero j)).symm, ?_, ?_, .refl, h1⟩, ?_⟩
    · rw [set_id hdp]; exact w.drop p
    · refine ⟨Ex.refl _, fun _ _ g _ => g, fun j a g => ?_, fun _ _ _ g _ => g, fun a u g => ⟨_, g⟩⟩
      change a ∈ (if j = p then [] else G j) at g
      split at g
      · cases g
      · exact .inl ⟨j, g⟩
    rintro i mm σ' H' ⟨rfl, hle, qss, hqs, w', s', p', hh⟩
    have hlen : qss.length = pss.length := by
      rcases Nat.lt_trichotomy qss.length pss.length with g | g | g
      · have := hqs qss.length
        rw [List.getElem?_eq_none (Nat.le_refl _), List.getElem?_eq_getElem g] at this
        split at this <;> cases this
      · exact g
      · have := hqs pss.length
        rw [List.getElem?_eq_getElem g, List.getElem?_eq_none (Nat.le_refl _)] at this
        split at this <;> cases this
    have hel : h < (env.set p none).length := env_lt hdp
    have hdq : ((env.set p none).set h (some (DL.D.oll qss)))[h]? = some (some (.oll qss)) := List.getElem?_set_self hel
    obtain ⟨v', g1, a1, as1, g2, g3, g4, g5, g6⟩ := w'.sl h _ hdq
    rw [hh] at g1; cases g1
    cases g3
    rw [hG0] at g2; cases g2
    by_cases hlt : i < pss.length
    · have hi1 : i < as0.length := by rw [g5, hlen]; exact hlt
      have ha1 : as0[i]? = some as0[i] := List.getElem?_eq_getElem hi1
      have hq1 : qss[i]? = some pss[i] := by rw [hqs, if_neg (Nat.lt_irrefl _)]; exact List.getElem?_eq_getElem hlt
      obtain ⟨us, f1, f2⟩ := g6 i _ _ ha1 hq1
      refine .inr ⟨⟨as0.map V.ref, .ref as0[i], SqL.of g4, by rw [List.getElem?_map, ha1]; rfl⟩, fun σ2 H2 => Wx (i + 1) σ2 H2, fun σ2 H2 h2 => ⟨pss.length - (i + 1), by omega, rfl, hlt, h2⟩, fun x H2 y => ?_⟩
      obtain ⟨rfl, hx⟩ := y
      have hx := hx _ (SqL.of g4)
      rw [List.getElem?_map, ha1] at hx
      cases hx
      have hσ' : p < σ'.length := by rw [p'.1]; exact hσp
      refine ⟨.ref as0[i], List.getElem?_set_self hσ', as0[i], us, 0, 0, rfl, rfl, f1, ?_, ?_⟩
      · have h0 : 0 < us.length := by
          rw [f2.length]
          exact List.length_pos_iff.mpr (hnn _ (List.getElem_mem hlt))
        unfold ixN
        rw [if_pos (by decide), if_pos (by omega)]
        rfl
      have hpn : ∀ d, ((env.set p none).set h (some (DL.D.oll qss)))[p]? ≠ some (some d) := fun d e => by
        rw [List.getElem?_set_ne hne, List.getElem?_set_self hpl] at e
        cases e
      have w2 := w'.sig (x := some (V.ref as0[i])) hpn
      have hh2 : (σ'.set p (some (V.ref as0[i])))[h]? = some (some (.ref a0)) := by rw [List.getElem?_set_ne fun q => hne q.symm]; exact hh
      have nd : (a0 :: as0).Nodup := by have := w'.nd h; rw [hG0] at this; exact this
      have hm : as0[i] ∈ as0 := List.getElem_mem hi1
      obtain ⟨w4, s4⟩ := w2.chg (d' := .oll (qss.set i (set0 pss[i]))) (o := .lst (us.set 0 (.int 0))) (l := as0[i]) hdq hh2 (by rw [hG0]; exact List.mem_cons_of_mem _ hm) ⟨a0, as0, hG0, rfl, by
          rw [upd_ne fun q => (List.nodup_cons.mp nd).1 (by rw [q]; exact hm)]; exact g4, by rw [List.length_set]; exact g5, fun ii b qs e1 e2 => by
          by_cases hii : i = ii
          · subst hii
            rw [ha1] at e1
            cases e1
            rw [List.getElem?_set_self (by rw [hlen]; exact hlt)] at e2
            cases e2
            exact ⟨_, upd_same, f2.set rfl⟩
          · rw [List.getElem?_set_ne hii] at e2
            obtain ⟨ws, c1, c2⟩ := g6 ii b qs e1 e2
            refine ⟨ws, ?_, c2⟩
            rw [upd_ne fun q => ?_]
            · exact c1
            · obtain ⟨hl, he⟩ := List.getElem?_eq_some_iff.mp e1
              have : as0[ii] = as0[i] := by rw [he, q]
              exact hii ((List.getElem_inj (List.nodup_cons.mp nd).2).mp this).symm⟩
      rw [List.set_set] at w4
      refine ⟨_, fun j => ?_, w4, s'.trans s4, p'.trans (Pin.set hpp), hh2⟩
      by_cases hj : i = j
      · subst hj
        rw [List.getElem?_set_self (by rw [hlen]; exact hlt), if_pos (Nat.lt_succ_self _), List.getElem?_eq_getElem hlt]
        rfl
      · rw [List.getElem?_set_ne hj, hqs]
        by_cases hji : j < i
        · rw [if_pos hji, if_pos (by omega)]
        · rw [if_neg hji, if_neg (by omega)]
    · have e : i = pss.length := by omega
      subst e
      have hfin : qss = pss.map set0 := List.ext_getElem? fun j => by
        rw [hqs, List.getElem?_map]
        by_cases hj : j < pss.length
        · rw [if_pos hj]
        · rw [if_neg hj, List.getElem?_eq_none (by omega)]; rfl
      subst hfin
      refine .inl ⟨⟨_, SqL.of g4, by rw [List.length_map, g5, hlen]; exact Nat.le_refl _⟩, n _ σ' B H' G0 ?_ w' s' p'⟩
      rw [List.set_comm _ _ (fun q => hne q.symm)]
      exact q
  · exact q.elim⟩
theorem ds_forSet {h p : Nat} {iter tg ls z : Expr} {ps1 ps2 : Pos} (hN : X.N.Nodup) (hh : PE X iter (tVar h)) (hb : PSs X [.Assign [ls] z ps1] (tAsg (tC (.int 0)) (gSub (tVar p) (tC (.int 0)) rSetL))) (hg : PG X tg (gName p)) (hc : X.calm = true) (hpo : PassesOwn (model X.prog X.w) X.A X.env X.xe) (hpp : p ∉ pn := by decide)
    (hs : ∀ x, foldedSetIterable iter X.env x = pure x := by intro _; rfl) :
    DS pn X (.For tg iter [.Assign [ls] z ps1] [] ps2) (tFor (iList X.K (tVar h)) (gName p) (tAsg (tC (.int 0)) (gSub (tVar p) (tC (.int 0)) rSetL))) (dForSet h p) := ⟨ps_for hpo hc (pi_list hh) hg hb hs, snd_forSet hpp⟩
/-! ### a list of which no more is told -/
def dOpq (de : dE) : dE := fun env Q => de env fun p e => match p with
  | .lst _ => ∀ a, Q (.ob a) e
  | _ => False
theorem snd_opq (h : SndE m K te de) : SndE m K te (dOpq de) := ⟨fun {B H σ env G QD Q} w q k => h.run w q fun p e v B1 H1 G1 q1 w1 r1 s1 u1 => by
  cases p with
  | lst xs =>
    obtain ⟨a, vs, rfl, _⟩ := r1
    exact k _ e _ B1 H1 G1 (q1 a) w1 rfl s1 u1
  | _ => exact q1.elim⟩
theorem de_opq {c : Expr} (h : DE m X c te de) : DE m X c te (dOpq de) := ⟨h.pe, snd_opq h.sd⟩
/-! ### a block within a block -/
def inner (up b : Scope) : Scope := ⟨b.kind, b.names.map fun y => if (y.2 == .free && up.kind == .function && up.names.lookup y.1 == some .cell) = true then (y.1, .cell) else y, b.isGenerator, b.isCoroutine, b.more⟩
theorem inner_eq (b : Scope) (env : PySem.Env) : relabel b env = inner env.scope b := rfl
theorem blkOk_in {N : List Str} {up b scope : Scope} {own : List (Str × Nat)} {env : PySem.Env} (he : env.scope = up) (h : blkC N (inner up b) scope own = true) : BlkOk N (relabel b env) scope own := by
  rw [inner_eq, he]
  exact blkOk_by h
end
end DL
set_option Elab.async false
set_option linter.all false
set_option maxRecDepth 100000
/-! try: .. with several clauses `except C as n:` -/
namespace ManyAs
open PySem PySem.Spec PyProof.Rows L2
/-- a clause as read: the class, the slot of the name, the suite -/
structure Cl where
  c : Value
  i : Nat
  ts : Addr → Value → Option Addr → TS
def wAll (K : PySem.W.Frag) (Wo : WX) (D : Ends) : List Cl → WX
  | [] => Wo
  | k :: r => wAs K k.c k.i k.ts (wAll K Wo D r) D
/-- the suite of a clause does as its term says -/
def SuiteOk (X : Cx) (b : List Stmt) (t : Addr → Value → Option Addr → TS) : Prop :=
  ∀ (a : Addr) (o : Obj) (cl : Value) (d : Option Addr) (ps : List (Addr × Obj)), Zc cl d o → (∃ vs, o.data = .fields vs) → PSs (X.suite a ((a, o) :: ps)) b (t a cl d)
inductive Clauses (X : Cx) : List ExceptHandler → List Cl → Prop
  | done : Clauses X [] []
  | more {x n : Str} {k : Cl} {b : Stmt} {bs : List Stmt} {p1 p2 : Pos} {ks : List ExceptHandler} {l : List Cl} (hi : X.N[k.i]? = some n) (hk : X.env.kindOf n = some .local)
      (hc : Names X x k.c) (hb : SuiteOk X (b :: bs) k.ts) (r : Clauses X ks l) :
      Clauses X (.ExceptHandler (some (.Name x p1)) (some n) (b :: bs) p2 :: ks) (k :: l)
section
variable {X : Cx} {body : List Stmt} {k0 : ExceptHandler} {ks : List ExceptHandler} {l : List Cl} {pos : Pos} {tb : WX → TS} {Wo : WX}
theorem try_clauses (hst : X.stack = X.env :: X.outer) (hfm : X.env.frame = some X.env.locals) (nd : X.N.Nodup) (out : Takes X Wo)
    (hbd : ∀ (W : WX) (ps : List (Addr × Obj)) (xe : Value → Shared → Prop), Takes (X.tr ps xe) W → PassesOwn (model X.prog X.w) X.A X.env xe → PSs (X.tr ps xe) body (tb W))
    (cl : Clauses X (k0 :: ks) l) : PS X (.Try body (k0 :: ks) [] [] pos) (fun D σ H => tb (wAll X.K Wo D l) D σ H) := ⟨fun ps s0 σ0 H0 D I0 h0 => by
  have fr0 : X.A.frames = some (X.env :: X.outer) := I0.ok.frames.trans (congrArg some hst)
  refine wpAny_Try_except (wpAny_mono ((hbd (wAll X.K Wo D l) (X.pn ++ ps) _ (fun v s1 thrown => ?caught) PassesOwn.looking).run [] s0 σ0 H0 D (I0.toTry _) h0) (fun fl s1 after => ?ended) (fun v s1 z => z))
  case ended =>
    cases fl with
    | next => exact let ⟨σ1, H1, J, q⟩ := after; wpAny_execs_nil ⟨σ1, H1, J.ofTry I0.ok, q⟩
    | brk => exact let ⟨σ1, H1, J, q⟩ := after; ⟨σ1, H1, J.ofTry I0.ok, q⟩
    | cont => exact let ⟨σ1, H1, J, q⟩ := after; ⟨σ1, H1, J.ofTry I0.ok, q⟩
    | ret v => exact let ⟨u, σ1, H1, J, r, q⟩ := after; ⟨u, σ1, H1, J.ofTry I0.ok, r, q⟩
  case caught =>
    obtain ⟨a, B, t0, ps1, σ, H, cls, d, rfl, K1, nb, up, sk, na, os, ag, wish⟩ := thrown
    have K0 : Inv X ps σ H t0 := K1.ofTry I0.ok
    have sk1 : Sky B (X.env :: X.outer) a (Zc cls d) X.env.locals s1.heap := hst ▸ sk
    refine Sky.land Zc.steady fr0 hfm sk1 fun h1 land up1 => ?_
    have up01 := up.trans up1
    have K2 : Inv X ps σ H { s1 with heap := h1 } := K0.landed nb land.1 up01 os ag
    -- the error's own address is no frame's
    have far : ∀ {h : Heap} {o : Obj} {vs : Array Value}, h.FunFrames B (X.env :: X.outer) → h.get? a = some o → o.data = .fields vs → a ∉ frs (X.env :: X.outer) := fun ff e dd hm => by
      obtain ⟨_, _, e2, no⟩ := ff.mem hm
      cases e2.symm.trans e
      exact no _ dd
    obtain ⟨o1, v1, e1, z1, d1⟩ := land.there
    have off := far land.2.2.1 e1 d1
    have offL : a ≠ X.env.locals := fun z => off (List.mem_filterMap.mpr ⟨_, List.mem_cons_self, hfm.trans (congrArg some z.symm)⟩)
    have offF : a ∉ X.fs := fun hm =>
      let ⟨e, he, q⟩ := List.mem_filterMap.mp hm
      off (List.mem_filterMap.mpr ⟨e, .tail _ he, q⟩)
    have inS := K2.suite e1 d1 na offL offF
    have all : ∀ {ks' : List ExceptHandler} {l' : List Cl}, Clauses X ks' l' → wAll X.K Wo D l' cls d σ H →
        wpAny (model X.prog X.w) X.A (handleBy (.ref a) X.env ks') (SP X ps D) X.xe { s1 with heap := h1 } := fun c => by
      induction c with
      | done =>
        intro w
        obtain ⟨_, _, _, o, vs, _, _, _, g1, _, g2, g3, _⟩ := id land
        have lift : wpAny (model X.prog X.w) X.A (setFlight (.ref a) X.env.frame) (fun _ s2 => wpAny (model X.prog X.w) X.A (throw (.ref a) : Sem Flow) (SP X ps D) X.xe s2) X.xe { s1 with heap := h1 } := by
          rw [hfm]
          exact HandSPX.setFlight_upZ land fun h2 sk2 up2 => wpAny_throw (out _ _ ⟨a, B, t0, ps, σ, H, cls, d, rfl, K0, nb, up01.trans up2, .inr (.inr (hst ▸ sk2)), na, os, ag, w⟩)
        refine wpAny_handleBy_nil ?_
        unfold PySem.passOn
        refine wpAny_bind (wpAny_field g1 g2 g3 ?_)
        rw [if_neg (by simp)]
        first | exact wpAny_bind lift | exact wpAny_bind (wpAny_pure (wpAny_bind lift))
      | @more x n k b bs p1 p2 ks' l' hi hk hc hb _ next =>
        rintro ⟨y, hy, yes, no⟩
        have sees : PySem.W.Looks (model X.prog X.w) h1 (typeOf (.ref a)) cls := fun _ _ _ _ up q => wpAny_typeOf_ref (up _ _ e1) (z1.1.symm ▸ q)
        refine wpAny_handleBy_cons (codeAny_handlers_test ?_) (fun q => nomatch q)
        have name : ∀ {Q E : Value → Shared → Prop}, Q k.c { s1 with heap := h1 } → wpAny (model X.prog X.w) (X.A.mark (some (.ref a))) (eval (.Name x p1) X.env) Q E { s1 with heap := h1 } := fun q =>
          match hc with
          | ⟨g1, g2, .inl g3⟩ => ld_glob (X := X.suite a ((a, o1) :: (X.pn ++ ps))) inS g1 g3 q g2
          | ⟨g1, g2, .inr ⟨g3, g4, g5⟩⟩ => ld_blt (X := X.suite a ((a, o1) :: (X.pn ++ ps))) inS g1 g3 g4 q g5 g2
        refine name ((PySem.W.exm_one (M := model X.prog X.w) K2.kIn sees hy).here ?_)
        cases y with
        | false => exact next (no rfl)
        | true =>
          refine codeAny_handlers_suite_as (HandSPX.lands_againZ land fun h2 land2 up2 => ?_)
          have K3 : Inv X ps σ H { s1 with heap := h2 } := K0.landed nb land2.1 (up01.trans up2) os ag
          obtain ⟨o2, v2, e2, z2, d2⟩ := land2.there
          refine store_ok (X := X.suite a ((a, o2) :: (X.pn ++ ps))) (v := .ref a) (K3.suite e2 d2 na offL offF) nd hi (.inl hk) rfl (fun s5 S5 => ?_) (.inr hk)
          refine wpAny_mono ((hb a o2 cls d (X.pn ++ ps) z2 ⟨_, d2⟩).run [] s5 _ H _ S5 (yes rfl a na)) (fun fl s6 sp => ?_) (fun _ _ z => nomatch z)
          have close : ∀ {σ6 : L2.St} {H6 : Hp} {Q : Shared → Prop}, Inv (X.suite a ((a, o2) :: (X.pn ++ ps))) [] σ6 H6 s6 → (∀ s7, Inv X ps (σ6.set k.i none) H6 s7 → Q s7) →
              wpAny (model X.prog X.w) X.A (do bindName X.env n .none; unbindBehindTheSuite X.env n p2) (fun _ s7 => Q s7) X.xe s6 := fun S6 q => gone_ok (S6.unsuite I0.ok) nd hi hk q
          cases fl with
          | next => exact let ⟨_, _, S6, q⟩ := sp; close S6 fun _ J => ⟨_, _, J, q⟩
          | brk => exact let ⟨_, _, S6, q⟩ := sp; close S6 fun _ J => ⟨_, _, J, q⟩
          | cont => exact let ⟨_, _, S6, q⟩ := sp; close S6 fun _ J => ⟨_, _, J, q⟩
          | ret u => exact let ⟨_, _, _, S6, r, q⟩ := sp; close S6 fun _ J => ⟨_, _, _, J, r, q⟩
    exact all cl wish⟩
end
end ManyAs
/-! ### o.m(..), its error looked at where it is made -/
namespace ManyAs
open PySem PySem.Spec PyProof.Rows L2
def tMethE (C : Addr) (m : Str) (sp : Sp) (E : L2.St → XK) (to : TE) (t : TA) : TE := fun σ => tMeth C m sp [] (E σ) to t σ
section
variable {X : Cx} {CX : CXT} {k : Nat} {f C : Addr} {fd : FuncData} {as : List Str} {sp : Sp} {E : L2.St → XK} {m : Str} {pos p0 : Pos} {e o : Expr} {es : List Expr} {to : TE} {t : TA}
theorem pe_methE {pl : Sem Bool} (ho : PE X o to) (cc : Cls X.K C) (cm : Meth X.K C m f) (ok : FnOk X.prog X.w X.K X.mg X.base CX k f fd as sp) (room : Room k X.A) (bd : Binds X.K fd as []) (px : ∀ σ, PassesAt CX X σ (E σ)) (ha : PA X (e :: es) t)
    (s1 : starEach (e :: es) X.env = (false, eval e X.env) :: starEach es X.env := by rfl) (s2 : (backTo pos (starEach es X.env)).any Prod.fst = false := by rfl)
    (s3 : eval (.Call (.Attribute o m p0) (e :: es) [] pos) X.env = (do
      let v ← eval o X.env
      standAt p0.atName
      let (g, us) ← holding [v] (getMethod v m pl)
      callWith pos g us (backTo pos (starEach (e :: es) X.env)) (backToKw pos (keywordEach [] X.env))) := by rfl) :
    PE X (.Call (.Attribute o m p0) (e :: es) [] pos) (tMethE C m sp E to t) := ⟨fun pins s σ H Q I h => by
  refine PySem.W.methodCall_KW (pl := pl) (thn (ho.run pins s σ H _ I h) fun u t1 got => ?_) s3
  obtain ⟨x, H1, I1, rx, a, dx, fs, rfl, ea, nl, h1⟩ := got
  cases (show u = Value.ref a from rx)
  refine getmeth_ok I1 ea cc cm nl (PySem.W.callWith_K (first := [.ref a]) (h₀ := X.base) I.ok.mod.kin cm.kp (thn (ha.run pos pins t1 σ H1 _ I1 h1) fun us t2 got => ?_) s1 s2)
  obtain ⟨vs, H2, I2, r, h2⟩ := got
  rw [List.append_nil] at h2
  exact ⟨I2.kIn, run_fnS (us := .ref a :: us) (vs := .ref a :: vs) ok room bd (px σ) I2 (.cons rfl r) h2⟩⟩
end
end ManyAs
namespace DL
open PySem PySem.Spec L2 ManyAs
section
variable [rI : Rf] {pn : List Nat} {K : PySem.W.Frag} {te : TE} {de : dE} {ta : TA} {da : dA} {X : Cx} {fs : FSp} {fx : FXp} {C : Addr} {mth : Str}
def cmP (C : Addr) (mth : Str) (fs : FSp) (fx : FXp) (da : dA) (QN : P → Prop) (QX : Xn → Prop) (p : P) (e : Env) : Prop := match p with
  | .ins C' fl => C' = C ∧ fl.lookup mth = none ∧ da e fun as _ => coQ fs fx C fl QN QX as
  | _ => False
def cxMeth (C : Addr) (mth : Str) (fs : FSp) (fx : FXp) (de : dE) (da : dA) : Env → (P → Prop) → (Xn → Prop) → Prop := fun env QN QX => de env fun p e => cmP C mth fs fx da QN QX p e
theorem cx_meth (h : SndE true K te de) (ga : SndA true K ta da) : CX1 K (fun E => tMethE C mth (spX K fs fx) E te ta) (cxMeth C mth fs fx de da) := ⟨fun {B H σ env G QN QX Q E} w q kn kx => h.run w q fun p e v B1 H1 G1 q1 w1 r1 s1 u1 => by
  obtain ⟨_, _, g⟩ := u1 rfl
  cases p with
  | ins C' fl =>
    obtain ⟨rfl, hm, q1⟩ := q1
    obtain ⟨a, dx, fv, rfl, h1, h2⟩ := id r1
    refine ⟨a, dx, fv, rfl, w1.ex a _ h1, h2.nolook hm, ga.run w1 q1 fun as e2 vs B2 H2 G2 q2 w2 r2 s2 u2 => ?_⟩
    obtain ⟨_, _, g2⟩ := u2 rfl
    have g12 := g.trans g2
    unfold coQ at q2
    split at q2
    · rename_i ps hp
      show spX K fs fx (V.ref a :: (vs ++ [])) H2 Q (E σ)
      rw [List.append_nil]
      have rr : RpA K B2 (P.ins C' fl :: ps) (V.ref a :: vs) := ⟨_, vs, rfl, Rp.mono s2.ex _ r1, r2.all hp⟩
      rcases q2 with q2 | q2
      · exact .inl (callPP (ps := .ins C' fl :: ps) w2.ex rr q2 fun z v B' H' qz rz gg => kn z v B' H' qz rz (g12.trans gg))
      · exact .inr ⟨H2, _, _, QX, plain_wd (Ex.refl H2) (RpA.mono w2.ex _ rr), q2, fun x dd v B3 H3 hx e1 e2 hn hd rp => kx x dd v B3 H3 hx (g12.h.trans e1) e2 hn hd rp⟩
    · exact q2.elim
  | _ => exact q1.elim⟩
/-! ### the clauses of a try -/
structure Dc where
  c : Value
  i : Nat
  ds : Addr → Xn → dS
/-- what becomes of an error x: the first clause that takes it, or the way out -/
def tryXs (K : PySem.W.Frag) (RD : Xn → Prop) (Dd : dEnds) (env : Env) (x : Xn) : List Dc → Prop
  | [] => RD x
  | k :: r => (PySem.W.exmOne K (.ref x.C) k.c = some true ∧ inE k.i env = true ∧ ∀ a, k.ds a x { nx := fun e => Dd.nx (e.set k.i none), rt := Dd.rt, bk := fun e => Dd.bk (e.set k.i none), ct := fun e => Dd.ct (e.set k.i none) } (env.set k.i (some (.sh (.ob a))))) ∨
    (PySem.W.exmOne K (.ref x.C) k.c = some false ∧ tryXs K RD Dd env x r)
def SuiteS (pn : List Nat) (K : PySem.W.Frag) (ts : Addr → Value → Option Addr → TS) (ds : Addr → Xn → dS) : Prop :=
  ∀ (a : Addr) (x : Xn) (dd : Addr) (v : V) (r : Rf), (∀ B, Rp K B x.p v) → r.R dd = none → @SndS (rfX x dd v r) pn K (ts a (.ref x.C) (some dd)) (ds a x)
inductive ClD (pn : List Nat) (K : PySem.W.Frag) : List Cl → List Dc → Prop
  | nil : ClD pn K [] []
  | cons {k : Cl} {d : Addr → Xn → dS} {l : List Cl} {m : List Dc} (hp : k.i ∉ pn) (hs : SuiteS pn K k.ts d) (r : ClD pn K l m) : ClD pn K (k :: l) (⟨k.c, k.i, d⟩ :: m)
theorem ClD.run {l : List Cl} {m : List Dc} {RD : Xn → Prop} {E : XK} (hE : HE K RD E) (c : ClD pn K l m) {B H : Hp} {σ : St} {env : Env} {G : Fp} {Dd : dEnds} {D : Ends} (w : Wd K B H σ env G)
    (n : Nx K pn B H G σ Dd.nx D.nx) (r : Rt K pn B H G σ Dd.rt D.rt) (k1 : Nx K pn B H G σ Dd.bk D.bk) (k2 : Nx K pn B H G σ Dd.ct D.ct) {x : Xn} {dd : Addr} {v : V} {B' H' : Hp}
    (hat : atomP x.p) (e1 : Ex H B') (e2 : Ex B' H') (hn : B' dd = none) (hd : H' dd = some (.xd [(x.f, v)])) (rp : Rp K B' x.p v) (q : tryXs K RD Dd env x m) : wAll K (WO E) D l (.ref x.C) (some dd) σ H' := by
  induction c with
  | nil => exact hE x dd v B' H' q (w.rf.trans (w.ex.trans e1)) e2 hn hd rp
  | @cons k d l m hp hs _ ih =>
    rcases q with ⟨hm, hi, hq⟩ | ⟨hm, hq⟩
    · refine ⟨true, hm, fun _ a ha => ?_, fun h => by cases h⟩
      have hH : H dd = none := e1.back hn
      have hB : B dd = none := w.ex.back hH
      have hR : Rf.R dd = none := w.rf.back hB
      have g : Gr B H (upd B dd (.xd [(x.f, v)])) H' := ⟨fun b o h => by rw [upd_ne (ne_of_none h hB)]; exact h, e1.trans e2, fun b o h => by
        by_cases e : b = dd
        · subst e; rw [upd_same] at h; cases h; exact hd
        · rw [upd_ne e] at h; exact e2 b o (e1 b o (w.ex b o h)), fun b o h hb => by rw [upd_ne (ne_of_none h hH)]; exact hb⟩
      have w2 := w.gr g
      have hi' := inE_lt hi
      have s4 : Stp B H G (upd B dd (.xd [(x.f, v)])) H' (fun j => if j = k.i then [] else G j) := g.stp.trans (stp_put fun _ h => absurd h List.not_mem_nil)
      have p4 : Pin pn σ (σ.set k.i (some (V.ref a))) := Pin.set hp
      have up : Ex Rf.R (upd Rf.R dd (.xd [(x.f, v)])) := fun b o h => by rw [upd_ne (ne_of_none h hR)]; exact h
      have w4 := w2.putS (p := .ob a) (v := V.ref a) hi' rfl
      have up2 : Ex (upd Rf.R dd (.xd [(x.f, v)])) (upd B dd (.xd [(x.f, v)])) := fun b o h => by
        by_cases e : b = dd
        · subst e
          rw [upd_same] at h ⊢; exact h
        · rw [upd_ne e] at h ⊢; exact w.rf b o h
      exact run_w (R1 := rI) (R2 := rfX x dd v rI) up (hs a x dd v rI (fun B => atom_rp hat rp B) hR) w4.toWd0 up2 (hq a) (nx_none hp (n.at s4 p4)) (r.at s4 p4) (nx_none hp (k1.at s4 p4)) (nx_none hp (k2.at s4 p4))
    · exact ⟨false, hm, fun h => (by cases h), fun _ => ih hq⟩
def dTryM (K : PySem.W.Frag) (m : List Dc) (rd : Env → (P → Prop) → (Xn → Prop) → Prop) (RD : Xn → Prop) : dS := fun Dd env => rd env (fun _ => Dd.nx env) fun x => atomP x.p ∧ tryXs K RD Dd env x m
def dTryMA (K : PySem.W.Frag) (m : List Dc) (j : Nat) (rd : Env → (P → Prop) → (Xn → Prop) → Prop) (RD : Xn → Prop) : dS := fun Dd env => rd env (fun p => inE j env = true ∧ Dd.nx (env.set j (some (.sh p)))) fun x => atomP x.p ∧ tryXs K RD Dd env x m
theorem snd_tryM {l : List Cl} {m : List Dc} {tc : (St → XK) → TE} {rd : Env → (P → Prop) → (Xn → Prop) → Prop} {RD : Xn → Prop} {E : XK} (hE : HE K RD E) (hc : CX1 K tc rd) (c : ClD pn K l m) :
    SndS pn K (fun D σ H => tDrop (tc (WE (wAll K (WO E) D l))) D σ H) (dTryM K m rd RD) := ⟨fun {B H σ env G Dd D} w q n r k1 k2 =>
  hc.run w q (fun z v B' H' qz rz gg => n env σ B' H' G qz (w.gr gg) gg.stp .refl) fun x dd v B' H' qx e1 e2 hn hd rp => c.run hE w n r k1 k2 qx.1 e1 e2 hn hd rp qx.2⟩
theorem snd_tryMA {l : List Cl} {m : List Dc} {j : Nat} {tc : (St → XK) → TE} {rd : Env → (P → Prop) → (Xn → Prop) → Prop} {RD : Xn → Prop} {E : XK} (hE : HE K RD E) (hpj : j ∉ pn) (hc : CX1 K tc rd) (c : ClD pn K l m) :
    SndS pn K (fun D σ H => tAsg (tc (WE (wAll K (WO E) D l))) (gName j) D σ H) (dTryMA K m j rd RD) := ⟨fun {B H σ env G Dd D} w q n r k1 k2 =>
  hc.run w q (fun z v B' H' qz rz gg => n _ _ B' H' _ qz.2 ((w.gr gg).putS (inE_lt qz.1) rz) (gg.stp.trans (stp_put fun _ h => absurd h List.not_mem_nil)) (Pin.set hpj)) fun x dd v B' H' qx e1 e2 hn hd rp => c.run hE w n r k1 k2 qx.1 e1 e2 hn hd rp qx.2⟩
/-- the clauses as they stand in the text, with their terms and their readings -/
inductive ClX (pn : List Nat) (X : Cx) : List ExceptHandler → List Cl → List Dc → Prop
  | nil : ClX pn X [] [] []
  | cons {x n : Str} {c : Value} {i : Nat} {b : Stmt} {bs : List Stmt} {p1 p2 : Pos} {ts : Addr → Value → Option Addr → TS} {dsu : Addr → Value → Option Addr → Xn → Addr → dS} {ks : List ExceptHandler} {l : List Cl} {m : List Dc}
      (hi : X.N[i]? = some n) (hk : X.env.kindOf n = some .local) (hc : Names X x c) (hp : i ∉ pn) (hs : SuiteD pn X (b :: bs) ts dsu) (r : ClX pn X ks l m) :
      ClX pn X (.ExceptHandler (some (.Name x p1)) (some n) (b :: bs) p2 :: ks) (⟨c, i, ts⟩ :: l) (⟨c, i, fun a x Dd env => ∀ dd, dsu a (.ref x.C) (some dd) x dd Dd env⟩ :: m)
theorem ClX.cl {ks : List ExceptHandler} {l : List Cl} {m : List Dc} (c : ClX pn X ks l m) : Clauses X ks l := by
  induction c with
  | nil => exact .done
  | cons hi hk hc hp hs _ ih => exact .more hi hk hc (fun a o cl d ps hz hf => dss_pe (hs a o cl d ps ⟨0, "", .non⟩ 0 .non rf0 hz hf (fun _ => rfl))) ih
theorem ClX.sd {ks : List ExceptHandler} {l : List Cl} {m : List Dc} (c : ClX pn X ks l m) : ClD pn X.K l m := by
  induction c with
  | nil => exact .nil
  | cons hi hk hc hp hs _ ih => exact .cons hp (fun a x dd v r hv _ => dss_run (K := X.K) (hs a { cls := .ref x.C, dict := some dd, data := .fields #[] } (.ref x.C) (some dd) [] x dd v r ⟨rfl, rfl⟩ ⟨_, rfl⟩ hv) rfl fun Dd env q => q dd) ih
section
variable {l : List Cl} {m : List Dc} {ks : List ExceptHandler} {j : Nat} {RD : Xn → Prop} {E : XK} {body : List Stmt} {pos : Pos} {tc : (St → XK) → TE} {rd : Env → (P → Prop) → (Xn → Prop) → Prop}
theorem ds_tryM (hE : HE X.K RD E) (c : ClX pn X ks l m) (hc : CX1 X.K tc rd) (hps : Clauses X ks l → PS X (.Try body ks [] [] pos) (fun D σ H => tDrop (tc (WE (wAll X.K (WO E) D l))) D σ H)) :
    DS pn X (.Try body ks [] [] pos) (fun D σ H => tDrop (tc (WE (wAll X.K (WO E) D l))) D σ H) (dTryM X.K m rd RD) := ⟨hps c.cl, snd_tryM hE hc c.sd⟩
theorem ds_tryMA (hE : HE X.K RD E) (hpj : j ∉ pn) (c : ClX pn X ks l m) (hc : CX1 X.K tc rd) (hps : Clauses X ks l → PS X (.Try body ks [] [] pos) (fun D σ H => tAsg (tc (WE (wAll X.K (WO E) D l))) (gName j) D σ H)) :
    DS pn X (.Try body ks [] [] pos) (fun D σ H => tAsg (tc (WE (wAll X.K (WO E) D l))) (gName j) D σ H) (dTryMA X.K m j rd RD) := ⟨hps c.cl, snd_tryMA hE hpj hc c.sd⟩
def methObj : Expr → Expr
  | .Call (.Attribute o _ _) _ _ _ => o
  | e => e
theorem ds_tryMEF (hE : HE X.K RD E) (c : ClX pn X ks l m) (ha : DA true X (callArgs (tryCall (.Try body ks [] [] pos))) ta da) (hps : Clauses X ks l → PS X (.Try body ks [] [] pos) (fun D σ H => tDrop (tCallS (spX X.K fs fx) (WE (wAll X.K (WO E) D l)) ta) D σ H)) :
    DS pn X (.Try body ks [] [] pos) (fun D σ H => tDrop (tCallS (spX X.K fs fx) (WE (wAll X.K (WO E) D l)) ta) D σ H) (dTryM X.K m (cxCall fs fx da) RD) :=
  ds_tryM (tc := fun E' => tCallS (spX X.K fs fx) E' ta) hE c (cx_call ha.sd) hps
theorem ds_tryMEC (hE : HE X.K RD E) (c : ClX pn X ks l m) (ha : DA true X (callArgs (tryCall (.Try body ks [] [] pos))) ta da) (hps : Clauses X ks l → PS X (.Try body ks [] [] pos) (fun D σ H => tDrop (tMakeS C (spX X.K fs fx) (WE (wAll X.K (WO E) D l)) ta) D σ H)) :
    DS pn X (.Try body ks [] [] pos) (fun D σ H => tDrop (tMakeS C (spX X.K fs fx) (WE (wAll X.K (WO E) D l)) ta) D σ H) (dTryM X.K m (cxMake C fs fx da) RD) :=
  ds_tryM (tc := fun E' => tMakeS C (spX X.K fs fx) E' ta) hE c (cx_make ha.sd) hps
theorem ds_tryMEM (hE : HE X.K RD E) (c : ClX pn X ks l m) (ho : DE true X (methObj (tryCall (.Try body ks [] [] pos))) te de) (ha : DA true X (callArgs (tryCall (.Try body ks [] [] pos))) ta da) (hps : Clauses X ks l → PS X (.Try body ks [] [] pos) (fun D σ H => tDrop (tMethE C mth (spX X.K fs fx) (WE (wAll X.K (WO E) D l)) te ta) D σ H)) :
    DS pn X (.Try body ks [] [] pos) (fun D σ H => tDrop (tMethE C mth (spX X.K fs fx) (WE (wAll X.K (WO E) D l)) te ta) D σ H) (dTryM X.K m (cxMeth C mth fs fx de da) RD) :=
  ds_tryM (tc := fun E' => tMethE C mth (spX X.K fs fx) E' te ta) hE c (cx_meth ho.sd ha.sd) hps
theorem ds_tryMAF (hE : HE X.K RD E) (hpj : j ∉ pn) (c : ClX pn X ks l m) (ha : DA true X (callArgs (tryVal (.Try body ks [] [] pos))) ta da) (hps : Clauses X ks l → PS X (.Try body ks [] [] pos) (fun D σ H => tAsg (tCallS (spX X.K fs fx) (WE (wAll X.K (WO E) D l)) ta) (gName j) D σ H)) :
    DS pn X (.Try body ks [] [] pos) (fun D σ H => tAsg (tCallS (spX X.K fs fx) (WE (wAll X.K (WO E) D l)) ta) (gName j) D σ H) (dTryMA X.K m j (cxCall fs fx da) RD) :=
  ds_tryMA (tc := fun E' => tCallS (spX X.K fs fx) E' ta) hE hpj c (cx_call ha.sd) hps
theorem ds_tryMAC (hE : HE X.K RD E) (hpj : j ∉ pn) (c : ClX pn X ks l m) (ha : DA true X (callArgs (tryVal (.Try body ks [] [] pos))) ta da) (hps : Clauses X ks l → PS X (.Try body ks [] [] pos) (fun D σ H => tAsg (tMakeS C (spX X.K fs fx) (WE (wAll X.K (WO E) D l)) ta) (gName j) D σ H)) :
    DS pn X (.Try body ks [] [] pos) (fun D σ H => tAsg (tMakeS C (spX X.K fs fx) (WE (wAll X.K (WO E) D l)) ta) (gName j) D σ H) (dTryMA X.K m j (cxMake C fs fx da) RD) :=
  ds_tryMA (tc := fun E' => tMakeS C (spX X.K fs fx) E' ta) hE hpj c (cx_make ha.sd) hps
theorem ds_tryMAM (hE : HE X.K RD E) (hpj : j ∉ pn) (c : ClX pn X ks l m) (ho : DE true X (methObj (tryVal (.Try body ks [] [] pos))) te de) (ha : DA true X (callArgs (tryVal (.Try body ks [] [] pos))) ta da) (hps : Clauses X ks l → PS X (.Try body ks [] [] pos) (fun D σ H => tAsg (tMethE C mth (spX X.K fs fx) (WE (wAll X.K (WO E) D l)) te ta) (gName j) D σ H)) :
    DS pn X (.Try body ks [] [] pos) (fun D σ H => tAsg (tMethE C mth (spX X.K fs fx) (WE (wAll X.K (WO E) D l)) te ta) (gName j) D σ H) (dTryMA X.K m j (cxMeth C mth fs fx de da) RD) :=
  ds_tryMA (tc := fun E' => tMethE C mth (spX X.K fs fx) E' te ta) hE hpj c (cx_meth ho.sd ha.sd) hps
end
end
end DL
set_option Elab.async false
set_option linter.all false
set_option maxRecDepth 100000
namespace DL
open PySem PySem.Spec L2
variable [Rf]
/-! ### what is new and made of tuples, the own lists being lent -/
def tupOD : D → Prop
  | .sh p => tupO p
  | .ol ps => tupOs ps
  | _ => False
section
variable {K : PySem.W.Frag} {m : Bool} {pn : List Nat} {te : TE} {ta : TA} {de : dE} {d0 : dO} {da : dA} {X : Cx} {a o : Expr} {es : List Expr} {C : Addr} {mth : Str} {fs : FSp} {fx : FXp} {RD : Xn → Prop} {E : XK}
def dLendO (i : Nat) (d0 : dO) : dO := fun env Q => match env[i]? with
  | some (some d) => isLs d = true ∧ d0 (env.set i (some (.sh d.frz))) fun r _ => tupOD r ∧ Q r env
  | _ => False
theorem snd_lendO {i : Nat} (h : SndO true K te d0) : SndO m K te (dLendO i d0) := ⟨fun {B H σ env G QD Q} w q k => by
  unfold dLendO at q
  split at q
  · rename_i d hd
    obtain ⟨v0, _, rd⟩ := w.sl i d hd
    refine h.run (w.lent hd) q.2 fun r e v F B1 H1 G1 q1 w1 o1 s1 u1 => ?_
    obtain ⟨_, eG, g⟩ := u1 rfl
    have nb : ∀ a ∈ G i, B a = none := fun a ha => w.nb i a ha
    have eB : Ex B (cutB B1 (G i)) := fun a o ho => cutB_in (g.b a o ((frz_gr w.ex nb).1 a o ho)) fun hm => by rw [nb a hm] at ho; cases ho
    have g2 : Gr B H (cutB B1 (G i)) H1 := ⟨eB, g.h, cutB_ex.trans g.w, fun a o ho hn => by
      unfold cutB
      split
      · rfl
      · rename_i hm
        refine g.n a o ho ?_
        unfold frzB
        rw [if_neg hm]
        exact hn⟩
    have hF : ∀ a ∈ G i, ∀ o, B1 a = some o → isT o = false := fun a ha o ho => by
      obtain ⟨vs, hvs, hT⟩ := rd.kinds q.1 a ha
      have := g.w a o ho
      rw [g.h a _ hvs] at this
      cases this
      exact hT
    have new : ∀ x ∈ F, H x = none := fun x hx => by
      rcases o1.nw x hx with ⟨j, hj⟩ | hn
      · exact absurd (by rw [eG]; exact hj) (o1.ap x hx j)
      · exact hn
    refine k r env v F _ H1 G q1.2 (w.gr g2) ⟨?_, o1.nd, fun x hx => ?_, fun x hx => .inr (new x hx), fun x hx j hj => w.off (new x hx) j hj⟩ g2.stp (.gr g2)
    · have hr := o1.rp
      have ht := q1.1
      match r, ht, hr with
      | .sh p, ht, ⟨e1, e2⟩ => exact ⟨e1, tup_rp hF p ht e2⟩
      | .ol ps, ht, ⟨x, vs, e1, e2, e3, e4⟩ => exact ⟨x, vs, e1, e2, e3, tups_rp hF ps ht e4⟩
    · unfold cutB
      split
      · rfl
      · exact o1.nb x hx
  · exact q.elim⟩
theorem do_lend (i : Nat) (h : DO true X a te d0) : DO m X a te (dLendO i d0) := ⟨h.pe, snd_lendO h.sd⟩
/-! ### C(..) that may raise: what it raises leaves -/
def dMakeX (C : Addr) (fs : FSp) (fx : FXp) (RD : Xn → Prop) (da : dA) : dE := fun env Q => cxMake C fs fx da env (fun p => Q p env) RD
theorem snd_makeX (hE : HE K RD E) (h : SndA true K ta da) : SndE m K (tMakeS C (spX K fs fx) (WE (WO E)) ta) (dMakeX C fs fx RD da) := ⟨fun {B H σ env G QD Q} w q k =>
  (cx_make h).run w q (fun z v B' H' qz rz gg => k z env v B' H' G qz (w.gr gg) rz gg.stp (.gr gg)) fun x dd v B' H' qx e1 e2 hn hd rp => hE x dd v B' H' qx (w.rf.trans (w.ex.trans e1)) e2 hn hd rp⟩
theorem de_makeX {e0 : Expr} (h : PA X (e0 :: es) ta → PE X a (tMakeS C (spX X.K fs fx) (WE (WO E)) ta)) (hE : HE X.K RD E) (ha : DA true X (e0 :: es) ta da) : DE m X a (tMakeS C (spX X.K fs fx) (WE (WO E)) ta) (dMakeX C fs fx RD da) := ⟨h ha.pe, snd_makeX hE ha.sd⟩
/-! ### o.m(..), own names among what is given -/
def dMethM (C : Addr) (mth : Str) (fs : FSp) (de : dE) (da : dA) : dO := fun env Q => de env fun p e => match p with
  | .ins C' fl => C' = C ∧ fl.lookup mth = none ∧ da e fun as e2 => argsOk (.inl (.ins C' fl) :: as) e2 = true ∧ fs ((.inl (.ins C' fl) :: as).map (argD e2)) fun d ds => Q d (updS e2 (.inl (.ins C' fl) :: as) ds)
  | _ => False
theorem snd_methM (h : SndE m K te de) (g : SndA m K ta da) : SndO false K (tMeth C mth (spD K fs) [] E te ta) (dMethM C mth fs de da) := ⟨fun {B H σ env G QD Q} w q k => h.run w q fun p e v B0 H0 G0 q0 w0 r0 s0 _ => by
  cases p with
  | ins C' fl =>
    obtain ⟨rfl, hm, q0⟩ := q0
    obtain ⟨a, dx, fv, rfl, h1, h2⟩ := id r0
    refine ⟨a, dx, fv, rfl, w0.ex a _ h1, h2.nolook hm, g.run w0 q0 fun as e2 vs B1 H1 G1 q1 w1 r1 s1 _ => ?_⟩
    obtain ⟨ok, q1⟩ := q1
    have s01 := s0.trans s1
    have rr : RpX K B1 σ (.inl (.ins C' fl) :: as) (V.ref a :: vs) := ⟨_, vs, rfl, Rp.mono s1.ex _ r0, r1⟩
    rw [List.append_nil]
    refine ⟨B1, _, _, _, w1.args rr ok, q1, fun d ds v F B2 H2 G2 q2 w2 o2 s2 => ?_⟩
    obtain ⟨w3, s3, m3⟩ := w1.after rr ok w2 s2
    refine k d _ v F B2 H2 _ q2 w3 ⟨o2.rp, o2.nd, o2.nb, fun x hx => ?_, fun x hx i hi => ?_⟩ (s01.trans s3) .off
    · rcases o2.nw x hx with ⟨j, hj⟩ | hn
      · obtain ⟨i, _, h2⟩ := argG_in hj
        exact s01.fp i x h2
      · exact .inr (s01.back hn)
    · rcases m3 x i hi with ⟨j, hj⟩ | ⟨h1, h2⟩
      · exact o2.ap x hx j hj
      · rcases o2.nw x hx with ⟨j, hj⟩ | hn
        · obtain ⟨i', g1, g2⟩ := argG_in hj
          have := w1.dj i i' x h1 g2
          subst this
          exact h2 (mem_slots.mpr ⟨j, g1⟩)
        · exact w1.off hn i h1
  | _ => exact q0.elim⟩
theorem do_methM {e0 : Expr} (h : PE X o te → PA X (e0 :: es) ta → PE X a (tMeth C mth (spD X.K fs) [] E te ta)) (ho : DE m X o te de) (ha : DA m X (e0 :: es) ta da) : DO false X a (tMeth C mth (spD X.K fs) [] E te ta) (dMethM C mth fs de da) := ⟨h ho.pe ha.pe, snd_methM ho.sd ha.sd⟩
end
end DL
set_option Elab.async false
set_option linter.all false
set_option maxRecDepth 100000
/-! texts: slices, join, the module's constants; len of an own instance; more that a try may hold -/
namespace LenOwn
open PySem PySem.Spec PyProof.Rows L2
section
variable {X : Cx} {CT : CXT} {k : Nat} {C g : Addr} {sp : Sp} {E : XK}
def rLenOwn (C : Addr) (sp : Sp) (E : XK) : List V → Hp → VK → Prop := fun xs H Q => ∃ a dx vs, xs = [.ref a] ∧ H a = some (.ins C dx vs) ∧ sp [.ref a] H (fun v H' => ∃ n : Int, v = .int n ∧ (0 ≤ n ∧ n < 2 ^ 63) ∧ Q (.int n) H') E
theorem call_lenOwn (F : DL.OwnF X.K C g "__len__") (f : FnR X.prog X.w X.K X.mg X.base CT k g sp) (hr : Room (k + 1) X.A) (hx : Passes CT X E) : CallR X (.builtin "len") (rLenOwn C sp E) := by
  intro pins s σ H xs us Q I r h
  obtain ⟨a, dx, vs, rfl, ha, q⟩ := h
  obtain ⟨u, rfl, ru⟩ := vals1 r
  obtain rfl : u = Value.ref a := ru
  obtain ⟨mA, O, _⟩ := ins_get I.hok ha
  obtain ⟨od, IA, _⟩ := O.look
  obtain ⟨m, hF⟩ := I.fr
  refine PySem.W.len_K hF I.ok.mod.kin IA F.at_ F.fn (wpAny_call (codeAny_mono (f X.A.in1 X.stack s H [.ref a] [.ref a] _ E hr.in1 I.env0.in1 (.cons rfl .nil) q) fun res s' out => ?_))
  cases res with
  | error e => exact hx pins σ H s e s' I out
  | ok fl =>
    cases fl with
    | ret v =>
      obtain ⟨z, H', I', rz, n, rfl, hn, qz⟩ := I.after out
      obtain ⟨t, rfl⟩ := rz
      exact ⟨hn, .int n, H', I'.tok _, ⟨_, rfl⟩, qz⟩
    | _ => exact out.elim
end
end LenOwn
namespace KwE
open PySem PySem.Spec PyProof.Rows L2
section
variable {X : Cx} {CT : CXT} {k : Nat} {g : Addr} {gd : FuncData} {prm ks : List Str} {sp : Sp} {E : L2.St → XK} {nm : Str} {p0 p1 : Pos} {e0 : Expr} {as0 : List Expr} {kws : List Keyword} {ta tk : TA} {bV : List Value → List Value → List Value} {bD : List V → List V → List V}
def tKwE (sp : Sp) (bD : List V → List V → List V) (E : L2.St → XK) (ta tk : TA) : TE := fun σ => tCallK sp bD (E σ) ta tk σ
theorem kw_at {pins : List (Addr × Obj)} {σ : L2.St} {H : Hp} {s : Shared} {Q : VK} {us ws : List Value} {vs zs : List V} (ok : FnOk X.prog X.w X.K X.mg X.base CT k g gd prm sp) (room : Room k X.A) (bn : KBinds X.K gd prm ks bV bD) (pass : PassesAt CT X σ (E σ))
    (iv : Inv X pins σ H s) (r1 : Vals vs us) (r2 : Vals zs ws) (hsp : sp (bD vs zs) H Q (E σ)) : wpAny (model X.prog X.w) X.A (call (.ref g) us (ks.zip ws)) (EP X pins σ Q) X.xe s := by
  have rr := bn.rel r1 r2
  have len : (bV us ws).length = prm.length := by rw [← rr.length]; exact ok.len _ _ _ _ hsp
  refine wpAny_call (codeAny_mono (ok.run X.A X.stack s H ⟨us, ks.zip ws⟩ (bV us ws) (bD vs zs) Q (E σ) room iv.env0 (bn.to s us ws iv.kIn len) rr hsp) fun res s2 out => ?_)
  cases res with
  | error u => exact pass pins H s u s2 iv out
  | ok fl =>
    cases fl with
    | ret u => exact iv.after out
    | _ => exact out.elim
theorem pe_kwE (ok : FnOk X.prog X.w X.K X.mg X.base CT k g gd prm sp) (room : Room k X.A) (gl : Gl X nm) (at_ : X.mg nm = some (.ref g)) (kp : PySem.W.keepIn X.K (.ref g) = true) (bn : KBinds X.K gd prm ks bV bD) (pass : ∀ σ, PassesAt CT X σ (E σ)) (ha : PA X (e0 :: as0) ta) (hkw : PK X kws tk)
    (k1 : (backToKw p1 (keywordEach kws X.env)).all (·.1.isSome) = true := by rfl) (k2 : (backToKw p1 (keywordEach kws X.env)).filterMap (·.1) = ks := by rfl) (k3 : (nm == ("__debug__" : Str)) = false := by decide)
    (k4 : starEach (e0 :: as0) X.env = (false, eval e0 X.env) :: starEach as0 X.env := by rfl) (k5 : ((backTo p1 (starEach (e0 :: as0) X.env)).any (·.1) || (backToKw p1 (keywordEach kws X.env)).any (·.1.isNone)) = false := by rfl) :
    PE X (.Call (.Name nm p0) (e0 :: as0) kws p1) (tKwE sp bD E ta tk) :=
  ⟨fun pins s σ H Q iv h => wpAny_Call_Name_kw (ld_glob iv gl at_ (PySem.W.callWith_KW (h₀ := X.base) iv.ok.mod.kin kp k1 (thn (ha.run p1 pins s σ H _ iv h) fun us s1 ⟨vs, H1, iv1, r1, q⟩ =>
    thn (hkw.run p1 pins s1 σ H1 _ iv1 q) fun ws s2 ⟨zs, H2, iv2, r2, q2⟩ => ⟨iv2.kIn, by rw [k2]; exact kw_at ok room bn (pass σ) iv2 r1 r2 q2⟩) k5 k4) k3)⟩
end
end KwE
namespace DL
open PySem PySem.Spec L2
section
variable [rI : Rf] {K : PySem.W.Frag} {m : Bool} {pn : List Nat} {te to tv : TE} {ta tk : TA} {de dv : dE} {da dk : dA} {X : Cx} {a o e c : Expr} {es : List Expr} {C : Addr} {mth : Str} {fs : FSp} {fx : FXp} {RD : Xn → Prop} {E : XK} {pos : Pos} {st : Stmt}
/-! ### a slice of a text -/
def cutQ (p : P) (l u : Option Int) (Q : P → Prop) : Prop := match p with
  | .str z => z.length ≤ sizeLine ∧ Q (.str (cutS z l u))
  | _ => False
def dSlT (de : dE) (lo hi : dPO) : dE := fun env Q => de env fun p e => lo e fun l e1 => hi e1 fun u e2 => cutQ p l u fun z => Q z e2
theorem snd_slT {tl th : TO} {lo hi : dPO} (h : SndE m K te de) (hl : SndP m K tl lo) (hu : SndP m K th hi) : SndE m K (tSl L2.rSlS te tl th) (dSlT de lo hi) := ⟨fun {B H σ env G QD Q} w q k =>
  h.run w q fun p e v B1 H1 G1 q1 w1 r1 s1 u1 => hl.run w1 q1 fun l e1 B2 H2 G2 q2 w2 s2 u2 => hu.run w2 q2 fun u e2 B3 H3 G3 q3 w3 s3 u3 => by
    unfold cutQ at q3
    split at q3
    · rename_i z
      exact ⟨z, r1, q3.1, k _ e2 _ B3 H3 G3 q3.2 w3 rfl ((s1.trans s2).trans s3) ((u1.trans u2).trans u3)⟩
    · exact q3.elim⟩
theorem de_slT {lo hi : Option Expr} {tl th : TO} {dl dh : dPO} {p2 : Pos} (h : DE m X e te de) (hl : DPO m X lo tl dl) (hu : DPO m X hi th dh) : DE m X (.Subscript e (.Slice lo hi none p2) pos) (tSl L2.rSlS te tl th) (dSlT de dl dh) :=
  ⟨pe_slice sl_str h.pe hl.pe hu.pe, snd_slT h.sd hl.sd hu.sd⟩
/-! ### sep.join(texts) -/
def joinR (x : Str) (o : Option (List P)) (f : Str → Prop) : Prop := match o with
  | some ps => ∃ ys : List Str, ps = ys.map P.str ∧ (ys.map (·.length)).sum + ys.length * x.length ≤ 16777216 ∧ f (Txt.join x ys)
  | none => False
def joinQ (p q : P) (f : Str → Prop) : Prop := match p with
  | .str x => joinR x (pitems q) f
  | _ => False
theorem strs_rp {B : Hp} : ∀ {ys : List Str} {vs : List V}, RpA K B (ys.map P.str) vs → vs = ys.map V.str
  | [], _, h => h
  | y :: ys, _, ⟨v, r, e1, e2, e3⟩ => by rw [e1, strs_rp e3, show v = V.str y from e2]; rfl
def dJoin (do' de : dE) : dE := fun env Q => do' env fun p e => de e fun q e2 => joinQ p q fun z => Q (.str z) e2
abbrev rJoin (K : PySem.W.Frag) : V → List V → Hp → VK → Prop := fun x xs H Q => ∃ a p, ∃ ys : List Str, x = .str a ∧ xs = [.ref p] ∧ (SqL K H p (ys.map V.str) ∨ SqT K H p (ys.map V.str)) ∧ (ys.map (·.length)).sum + ys.length * a.length ≤ 16777216 ∧ Q (.str (Txt.join a ys)) H
def strQ (d : dE) : dE := fun env Q => d env fun p e => (∃ x, p = .str x) ∧ Q p e
theorem snd_join {do' : dE} (h : SndE m K to do') (g : SndE m K te de) : SndE m K (tM1 (rJoin K) to te) (dJoin (strQ do') de) := ⟨fun {B H σ env G QD Q} w q k =>
  h.run w q fun p e v B1 H1 G1 q1 w1 r1 s1 u1 => by
    obtain ⟨⟨x, rfl⟩, q1⟩ := q1
    refine ⟨⟨x, r1⟩, g.run w1 q1 fun p2 e2 v2 B2 H2 G2 q2 w2 r2 s2 u2 => ?_⟩
    change joinR x (pitems p2) (fun z => QD (.str z) e2) at q2
    unfold joinR at q2
    split at q2
    · rename_i ps hp
      obtain ⟨ys, rfl, hz, q2⟩ := q2
      obtain ⟨b, vs, rfl, h2, h3⟩ := pitems_rp r2 hp
      rw [strs_rp h3] at h2
      exact ⟨x, b, ys, r1, rfl, (h2.imp w2.ex.sqT w2.ex.sqL).symm, hz, k _ e2 _ B2 H2 G2 q2 w2 rfl (s1.trans s2) (u1.trans u2)⟩
    · exact q2.elim⟩
theorem de_join {do' : dE} {t : Expr} (hp : PE X o to → PE X e te → PE X t (tM1 (rJoin X.K) to te)) (h : DE m X o to do') (g : DE m X e te de) : DE m X t (tM1 (rJoin X.K) to te) (dJoin (strQ do') de) := ⟨hp h.pe g.pe, snd_join h.sd g.sd⟩
/-! ### a text and a text -/
def dStrCat : P → P → (P → Prop) → Prop := fun p q Q => match p, q with
  | .str x, .str y => x.length + y.length ≤ sizeLine ∧ Q (.str (x ++ y))
  | _, _ => False
theorem os_strcat : OpS K (fun x y H Q => ∃ i j, x = .str i ∧ y = .str j ∧ i.length + j.length ≤ sizeLine ∧ Q (.str (i ++ j)) H) dStrCat := ⟨fun {B H x y p q QD Q} ex r1 r2 h k => by
  unfold dStrCat at h
  split at h
  · exact ⟨_, _, r1, r2, h.1, k _ B H _ h.2 rfl (.refl ex)⟩
  · exact h.elim⟩
/-! ### constants of the module -/
theorem pe_con {x : Str} {v : V} (hg : Gl X x) (h : ∃ u, X.mg x = some u ∧ RelV v u) (hd : (x == ("__debug__" : Str)) = false := by decide) : PE X (.Name x pos) (tC v) := by
  obtain ⟨u, h1, h2⟩ := h
  exact pe_glob hg h1 h2 hd
/-- a tuple of texts -/
def KT (K : PySem.W.Frag) (c : Addr) (xs : List Str) : Prop := ∃ (o : Obj) (its : Array Value) (n : Nat), K.lookup c = some o ∧ o.cls = .type "tuple" ∧ o.data = .seq its n ∧ its.size ≤ sizeLine ∧ Vals (xs.map V.str) its.toList
theorem rpA_strs {B : Hp} : ∀ xs : List Str, RpA K B (xs.map P.str) (xs.map V.str)
  | [] => rfl
  | x :: xs => ⟨_, _, rfl, rfl, rpA_strs xs⟩
theorem KT.rp {c : Addr} {xs : List Str} (h : KT K c xs) (B : Hp) : Rp K B (.tup (xs.map P.str)) (.ref c) := ⟨c, _, rfl, .inr h, rpA_strs xs⟩
theorem mem_of_lookup {x y : Str} : ∀ {l : List (Str × Str)}, l.lookup x = some y → (x, y) ∈ l
  | [], h => by cases h
  | (a, b) :: l, h => by
    rw [List.lookup_cons] at h
    split at h
    · rename_i e
      cases h
      rw [eq_of_beq e]
      exact List.mem_cons_self
    · exact List.mem_cons_of_mem _ (mem_of_lookup h)
/-- a dict of texts by texts -/
def KDT (K : PySem.W.Frag) (w : World) (c : Addr) (tab : List (Str × Str)) : Prop := ∀ x y, tab.lookup x = some y → KDct K w c x (.str y)
def dKd (c : Addr) (tab : List (Str × Str)) : P → P → (P → Prop) → Prop := fun p q Q => match p, q with
  | .ob b, .str x => b = c ∧ ∃ y, tab.lookup x = some y ∧ Q (.str y)
  | _, _ => False
theorem os_kd {w : World} {c : Addr} {tab : List (Str × Str)} (h : KDT K w c tab) : OpS K (rIxD K w) (dKd c tab) := ⟨fun {B H x y p q QD Q} ex rx ry r k => by
  unfold dKd at r
  split at r
  · rename_i b z
    obtain ⟨rfl, v, hv, r⟩ := r
    exact ⟨b, z, .str v, rx, ry, h z v hv, k _ B H _ r rfl (.refl ex)⟩
  · exact r.elim⟩
/-! ### len of an own instance -/
def dLenOwn (C : Addr) (fs : FSp) (ps : List P) (Q : P → Prop) : Prop := match ps with
  | [.ins C' fl] => C' = C ∧ pcall fs [.ins C' fl] fun z => match z with
    | .int n => (0 ≤ n ∧ n < 2 ^ 63) ∧ Q (.int n)
    | _ => False
  | _ => False
theorem cs_lenOwn : CbS K (LenOwn.rLenOwn C (fun vs H Q E => spD K fs (vs ++ []) H Q E) E) (dLenOwn C fs) := ⟨fun {B H xs ps QD Q} ex r q k => by
  unfold dLenOwn at q
  split at q
  · rename_i C' fl
    obtain ⟨rfl, q⟩ := q
    obtain ⟨v, rfl, rv⟩ := one_rp r
    obtain ⟨b, dx, fv, rfl, h1, h2⟩ := id rv
    refine ⟨b, dx, fv, rfl, ex b _ h1, callPP (ps := [_]) ex ⟨_, _, rfl, rv, rfl⟩ q fun z v B' H' qz rz gg => ?_⟩
    cases z with
    | int n => exact ⟨n, rz, qz.1, k _ B' H' _ qz.2 rfl gg⟩
    | _ => exact qz.elim
  · exact q.elim⟩
/-! ### o.m(..) that may raise: what it raises leaves -/
def dMethX (C : Addr) (mth : Str) (fs : FSp) (fx : FXp) (RD : Xn → Prop) (de : dE) (da : dA) : dE := fun env Q => cxMeth C mth fs fx de da env (fun p => Q p env) RD
theorem snd_methX (hE : HE K RD E) (h : SndE true K te de) (g : SndA true K ta da) : SndE m K (ManyAs.tMethE C mth (spX K fs fx) (WE (WO E)) te ta) (dMethX C mth fs fx RD de da) := ⟨fun {B H σ env G QD Q} w q k =>
  (cx_meth h g).run w q (fun z v B' H' qz rz gg => k z env v B' H' G qz (w.gr gg) rz gg.stp (.gr gg)) fun x dd v B' H' qx e1 e2 hn hd rp => hE x dd v B' H' qx (w.rf.trans (w.ex.trans e1)) e2 hn hd rp⟩
theorem de_methX {e0 : Expr} (h : PE X o te → PA X (e0 :: es) ta → PE X a (ManyAs.tMethE C mth (spX X.K fs fx) (WE (WO E)) te ta)) (hE : HE X.K RD E) (ho : DE true X o te de) (ha : DA true X (e0 :: es) ta da) : DE m X a (ManyAs.tMethE C mth (spX X.K fs fx) (WE (WO E)) te ta) (dMethX C mth fs fx RD de da) := ⟨h ho.pe ha.pe, snd_methX hE ho.sd ha.sd⟩
/-! ### what a try holds: a method, a call with keywords -/
theorem dxs_exprM (ho : DE true X (methObj (exprVal st)) te de) (ha : DA true X (callArgs (exprVal st)) ta da) (hpe : ∀ (W : WX) (pn' : List (Addr × Obj)) (xe : Value → Shared → Prop), Takes (X.tr pn' xe) W → PS (X.tr pn' xe) st (tDrop (ManyAs.tMethE C mth (spX X.K fs fx) (WE W) te ta))) :
    DXS pn X [st] (fun E => tDrop (ManyAs.tMethE C mth (spX X.K fs fx) E te ta)) (fun env Dd QX => cxMeth C mth fs fx de da env (fun _ => Dd.nx env) QX) :=
  ⟨fun W pn' xe tk _ => pss_one (hpe W pn' xe tk), cxs_expr (cx_meth ho.sd ha.sd)⟩
def callKws : Expr → List Keyword
  | .Call _ _ ks _ => ks
  | _ => []
theorem cx_kw {n j : Nat} (ha : SndA true K ta da) (hk : SndA true K tk dk) : CX1 K (fun E => KwE.tKwE (spX K fs fx) (gK n j) E ta tk) (cxCall fs fx (dCatK n j da dk)) := cx_call (snd_catK ha hk)
theorem dxs_exprK {n j : Nat} (ha : DA true X (callArgs (exprVal st)) ta da) (hk : DK true X (callKws (exprVal st)) tk dk) (hpe : ∀ (W : WX) (pn' : List (Addr × Obj)) (xe : Value → Shared → Prop), Takes (X.tr pn' xe) W → PS (X.tr pn' xe) st (tDrop (KwE.tKwE (spX X.K fs fx) (gK n j) (WE W) ta tk))) :
    DXS pn X [st] (fun E => tDrop (KwE.tKwE (spX X.K fs fx) (gK n j) E ta tk)) (fun env Dd QX => cxCall fs fx (dCatK n j da dk) env (fun _ => Dd.nx env) QX) :=
  ⟨fun W pn' xe tk _ => pss_one (hpe W pn' xe tk), cxs_expr (cx_kw ha.sd hk.sd)⟩
end
end DL
set_option Elab.async false
set_option linter.all false
set_option maxRecDepth 100000
set_option maxHeartbeats 4000000
namespace K77
open PySem PySem.Spec PyProof.Rows L2 DL
def topS (i : Nat) : Stmt := PySem.Challenge.pw_signedpacts_k77_views.main.body.getD i (.Pass ⟨0, 0, 0, 0⟩)
structure Txt (K : PySem.W.Frag) (mg : Str → Option Value) (cExchange cHouseError cBadBit cBadEnd cBadFate cENDS cARRIVING : Addr) : Prop where
  cl_Exchange : Cls K cExchange
  mg_Exchange : mg "Exchange" = some (.ref cExchange)
  sf_Exchange : PySem.W.selfFirst K cExchange = true
  nf_Exchange : PySem.W.notFirst K cExchange (.ref cExchange) = true
  is_Exchange : C8.InsC K cExchange
  n_Exchange_first_bit : NoAttr K cExchange "first_bit"
  n_Exchange_second_bit : NoAttr K cExchange "second_bit"
  n_Exchange_fates : NoAttr K cExchange "fates"
  mg_HouseError : mg "HouseError" = some (.ref cHouseError)
  mg_BadBit : mg "BadBit" = some (.ref cBadBit)
  mg_BadEnd : mg "BadEnd" = some (.ref cBadEnd)
  mg_BadFate : mg "BadFate" = some (.ref cBadFate)
  ex_BadEnd_BadEnd : PySem.W.exmOne K (.ref cBadEnd) (.ref cBadEnd) = some true
  ex_BadEnd_BadBit : PySem.W.exmOne K (.ref cBadEnd) (.ref cBadBit) = some false
  ex_BadEnd_BadFate : PySem.W.exmOne K (.ref cBadEnd) (.ref cBadFate) = some false
  ki_BadEnd_BadBit : PySem.W.kitOne K (.ref cBadEnd) (.ref cBadBit) = some false
  ki_BadEnd_HouseError : PySem.W.kitOne K (.ref cBadEnd) (.ref cHouseError) = some true
  ki_BadEnd_ValueError : PySem.W.kitOne K (.ref cBadEnd) (.type "ValueError") = some true
  ki_BadEnd_BadFate : PySem.W.kitOne K (.ref cBadEnd) (.ref cBadFate) = some false
  ki_BadEnd_BadEnd : PySem.W.kitOne K (.ref cBadEnd) (.ref cBadEnd) = some true
  ex_BadFate_BadEnd : PySem.W.exmOne K (.ref cBadFate) (.ref cBadEnd) = some false
  ex_BadFate_BadBit : PySem.W.exmOne K (.ref cBadFate) (.ref cBadBit) = some false
  ex_BadFate_BadFate : PySem.W.exmOne K (.ref cBadFate) (.ref cBadFate) = some true
  ki_BadFate_BadBit : PySem.W.kitOne K (.ref cBadFate) (.ref cBadBit) = some false
  ki_BadFate_HouseError : PySem.W.kitOne K (.ref cBadFate) (.ref cHouseError) = some true
  ki_BadFate_ValueError : PySem.W.kitOne K (.ref cBadFate) (.type "ValueError") = some true
  ki_BadFate_BadFate : PySem.W.kitOne K (.ref cBadFate) (.ref cBadFate) = some true
  ki_BadFate_BadEnd : PySem.W.kitOne K (.ref cBadFate) (.ref cBadEnd) = some false
  ex_BadBit_BadEnd : PySem.W.exmOne K (.ref cBadBit) (.ref cBadEnd) = some false
  ex_BadBit_BadBit : PySem.W.exmOne K (.ref cBadBit) (.ref cBadBit) = some true
  ex_BadBit_BadFate : PySem.W.exmOne K (.ref cBadBit) (.ref cBadFate) = some false
  ki_BadBit_BadBit : PySem.W.kitOne K (.ref cBadBit) (.ref cBadBit) = some true
  ki_BadBit_HouseError : PySem.W.kitOne K (.ref cBadBit) (.ref cHouseError) = some true
  ki_BadBit_ValueError : PySem.W.kitOne K (.ref cBadBit) (.type "ValueError") = some true
  ki_BadBit_BadFate : PySem.W.kitOne K (.ref cBadBit) (.ref cBadFate) = some false
  ki_BadBit_BadEnd : PySem.W.kitOne K (.ref cBadBit) (.ref cBadEnd) = some false
  mg_ENDS : mg "ENDS" = some (.ref cENDS)
  kt_ENDS : KT K cENDS ["first", "second"]
  kc_FATES : ∃ u, mg "FATES" = some u ∧ RelV (.str "bfsn") u
  mg_ARRIVING : mg "ARRIVING" = some (.ref cARRIVING)
/-- a list or a tuple -/
def sq (t : Bool) (ps : List P) : P := if t then .tup ps else .lst ps
theorem pseq_sq (t : Bool) (ps : List P) : pseq (sq t ps) = some ps := by cases t <;> rfl
abbrev pR (t : Bool) (rs : List (List Int)) : List P := rs.map fun r => sq t (pI r)
theorem ixN_m1 {n : Nat} (h : 0 < n) : ixN n (-1) = some (n - 1) := by
  unfold ixN
  rw [if_neg (by decide), if_pos (by omega)]
  congr 1
  omega
theorem ixN_0 {n : Nat} (h : 0 < n) : ixN n 0 = some 0 := by
  unfold ixN
  rw [if_pos (by decide), if_pos (by omega)]
  rfl
theorem atI_m1 {α : Type} {xs : List α} {x : α} (h : xs[xs.length - 1]? = some x) : atI xs (-1) = some x := by
  unfold atI
  rw [ixN_m1 (by cases xs with | nil => cases h | cons => exact Nat.succ_pos _)]
  exact h
theorem atI_0 {α : Type} {xs : List α} {x : α} (h : xs[0]? = some x) : atI xs 0 = some x := by
  unfold atI
  rw [ixN_0 (by cases xs with | nil => cases h | cons => exact Nat.succ_pos _)]
  exact h
theorem last_map {α β : Type} {f : α → β} {xs : List α} {x : α} (h : xs[xs.length - 1]? = some x) : (xs.map f)[(xs.map f).length - 1]? = some (f x) := by
  rw [List.length_map, List.getElem?_map, h]; rfl
theorem fst_map {α β : Type} {f : α → β} {xs : List α} {x : α} (h : xs[0]? = some x) : (xs.map f)[0]? = some (f x) := by
  rw [List.getElem?_map, h]; rfl
theorem shp_rows (rs : List (List Int)) : Shp (.lst (rs.map fun r => P.lst (pI r))) 2 := .lst fun r _ => shp_ints r
theorem shp_trows (rs : List (List Int)) : Shp (.tup (rs.map fun r => P.tup (pI r))) 2 := .tup fun r _ => shp_tints r
theorem frz_oll (rows : List (List Int)) : (D.oll (rows.map pI)).frz = sq false (pR false rows) := by
  show P.lst (List.map P.lst (List.map pI rows)) = P.lst _
  rw [List.map_map]; rfl
theorem shp_oll (rs : List (List Int)) : Shp (D.oll (rs.map pI)).frz 2 := by rw [frz_oll]; exact shp_rows rs
theorem neqv {p : P} {n : Nat} (h : Shp p n) (g : (!PyData.eqv p.toD p.toD) = true) : False := by
  rw [h.refl] at g; exact Bool.noConfusion g
theorem tupO_pI : ∀ xs : List Int, tupO (.tup (pI xs))
  | [] => trivial
  | _ :: xs => ⟨trivial, tupO_pI xs⟩
theorem atIr {ps : List P} {k : Int} {p : P} (h : atI ps k = some p) : atI ps k = some p := h
theorem lookR {fs : List (Str × P)} {f : Str} {p : P} (h : fs.lookup f = some p) : fs.lookup f = some p := h
theorem look_hit {f g : Str} {p : P} {r : List (Str × P)} (h : (f == g) = true) : ((g, p) :: r).lookup f = some p := by rw [List.lookup, h]
theorem look_miss {f g : Str} {p : P} {r : List (Str × P)} {o : Option P} (h : (f == g) = false) (k : r.lookup f = o) : ((g, p) :: r).lookup f = o := by rw [List.lookup, h]; exact k
local macro_rules | `(tactic| walk_at "lk") => `(tactic| repeat' (first | exact look_hit (by decide +kernel) | refine look_miss (by decide +kernel) ?_ | exact rfl))
local macro_rules | `(tactic| walk_at "ok") => `(tactic| first | ((with_reducible show SeqAt.shaped _ = true); first | exact (shp_ints _).ok | exact (shp_tints _).ok | exact (shp_rows _).ok | exact (shp_trows _).ok | exact (shp_oll _).ok) | ((with_reducible show (_ : Bool) = true); rfl) | ((with_reducible show slots _ = _); rfl) | ((with_reducible show List.length _ = _); rfl) | ((with_reducible show _ ≤ sizeLine); first | decide | (rw [sizeLine_eq]; first | omega | (simp only [List.length_map, List.length_append, List.length_cons, List.length_nil, List.length_take]; omega))) | ((with_reducible show _ < sizeLine); first | decide | (rw [sizeLine_eq]; first | omega | (simp only [List.length_map, List.length_append, List.length_cons, List.length_nil, List.length_take]; omega))) | ((with_reducible show CDivW _ _); refine cdiv_of ?_ ?_ <;> omega) | ((with_reducible show CMulW _ _); refine cmul64 ⟨?_, ?_⟩ ⟨?_, ?_⟩ <;> omega) | ((with_reducible show (0 : Int) < _); first | decide | omega) | ((with_reducible show (_ ∧ _)); exact ⟨rfl, rfl⟩) | (with_reducible assumption) | ((with_reducible show CPow _ _); exact ⟨by decide, by decide, by decide⟩) | ((with_reducible show ClsA _ _ _); assumption) | ((with_reducible show C8.InsC _ _); assumption) | ((with_reducible show List.lookup _ _ = none); walk_at "lk") | ((with_reducible show List.length _ < 1000); exact Nat.le_of_ble_eq_true rfl) | (with_reducible rfl) | omega)
local macro_rules | `(tactic| walk_at "go") => `(tactic| ((repeat ((conv => whnf); refine And.intro (by walk_at "ok") ?_)); (try (conv => whnf))))
local macro_rules | `(tactic| walk_at "sp") => `(tactic| ((with_reducible show (_ = true → _) ∧ (_ = false → _)); refine And.intro (fun hc => ?_) (fun hc => ?_) <;> (first | exact Bool.noConfusion hc | (simp only [decide_eq_true_eq, decide_eq_false_iff_not, Bool.not_eq_true', Bool.not_eq_false', Int.not_lt, Int.not_le] at hc) | skip)))
local macro_rules | `(tactic| walk_at "ix") => `(tactic| first | ((with_reducible show ∃ p, atI (_ :: _) _ = some p ∧ _); refine ⟨_, atIr rfl, ?_⟩) | ((with_reducible show ∃ p, List.lookup _ _ = some p ∧ _); refine ⟨_, lookR (by walk_at "lk"), ?_⟩))
local macro_rules | `(tactic| walk_at "au") => `(tactic| ((walk_at "go"); repeat' (first | ((walk_at "sp") <;> (walk_at "go")) | ((walk_at "ix"); (walk_at "go")))))
local macro_rules | `(tactic| walk_at "ax") => `(tactic| ((walk_at "au"); all_goals (try (exfalso; omega))))
/-- an int that no product makes too great -/
def Sm (x : Int) : Prop := -(2 ^ 1000 : Int) < x ∧ x < 2 ^ 1000
theorem sm_mul {a b : Int} (ha : Sm a) (hb : Sm b) : CMulW a b := cmul_of 1000 1000 ha hb
theorem sm_of {v : Int} (B : Int) (h : -B ≤ v ∧ v ≤ B) (hB : B < 2 ^ 1000 := by decide +kernel) : Sm v := ⟨by omega, by omega⟩
theorem sm_div {a b : Int} (ha : 0 < b) (hb : Sm b) : CDivW a b := ⟨ha, Nat.lt_trans (log_lt (n := 1000) hb.1 hb.2 (by decide)) (by decide)⟩
theorem map_get {α : Type} {f : α → P} {xs : List α} {i : Nat} {p : P} (h : (xs.map f)[i]? = some p) : ∃ x, xs[i]? = some x ∧ p = f x := by
  rw [List.getElem?_map] at h
  cases e : xs[i]? with
  | none => rw [e] at h; cases h
  | some n => rw [e] at h; cases h; exact ⟨n, rfl, rfl⟩
theorem take_map {α β : Type} {f : α → β} {xs : List α} {i : Nat} {x : α} (h : xs[i]? = some x) : (xs.take (i + 1)).map f = (xs.take i).map f ++ [f x] := by
  rw [List.take_succ, h, List.map_append]; rfl
theorem getD_of {α : Type} {xs : List α} {i : Nat} {x d : α} (h : xs[i]? = some x) : xs.getD i d = x := by rw [List.getD_eq_getElem?_getD, h]; rfl
theorem atI0 {α : Type} {f : α → P} {xs : List α} {j : Nat} {x : α} (h : xs[j]? = some x) : atI (xs.map f) (0 + (j : Int)) = some (f x) := by
  rw [Int.zero_add]; exact atI_nat (by rw [List.getElem?_map, h]; rfl)
theorem lt_of_get {α : Type} {xs : List α} {i : Nat} {x : α} (h : xs[i]? = some x) : i < xs.length := (List.getElem?_eq_some_iff.mp h).1
theorem pI_snoc (xs : List Int) (v : Int) : pI (xs ++ [v]) = pI xs ++ [.int v] := by simp only [pI, List.map_append]; rfl
abbrev s_err_BadEnd : Stmt := inClass (topS 3) 0
theorem sc_err_BadEnd : FnScope ["self", "end"] ["self", "end"] (defScope s_err_BadEnd) := ⟨rfl, rfl, rfl, by decide +kernel, rfl, by decide +kernel, by decide +kernel⟩
theorem ok_err_BadEnd {Pg : Program} {w : World} {K : PySem.W.Frag} {mg : Str → Option Value} {base : Heap} {a C : Addr} {fd : FuncData} (F : L2.Fun K "__init__" "BadEnd.__init__" s_err_BadEnd a fd) : FnOk Pg w K mg base CX0 1 a fd ["self", "end"] (spErr K C "end") :=
  F.ok sc_err_BadEnd (fun vs H Q E h => by obtain ⟨_, _, rfl, _⟩ := h; rfl) (fun cdv A outer s H vs Q E hr h => ⟨_, pss_one (ps_ost (pv 0) (pv 1)), err_init h (by obtain ⟨_, _, rfl, _⟩ := h; rfl) fun _ q => q⟩)
abbrev s_err_BadFate : Stmt := inClass (topS 4) 0
theorem sc_err_BadFate : FnScope ["self", "at"] ["self", "at"] (defScope s_err_BadFate) := ⟨rfl, rfl, rfl, by decide +kernel, rfl, by decide +kernel, by decide +kernel⟩
theorem ok_err_BadFate {Pg : Program} {w : World} {K : PySem.W.Frag} {mg : Str → Option Value} {base : Heap} {a C : Addr} {fd : FuncData} (F : L2.Fun K "__init__" "BadFate.__init__" s_err_BadFate a fd) : FnOk Pg w K mg base CX0 1 a fd ["self", "at"] (spErr K C "at") :=
  F.ok sc_err_BadFate (fun vs H Q E h => by obtain ⟨_, _, rfl, _⟩ := h; rfl) (fun cdv A outer s H vs Q E hr h => ⟨_, pss_one (ps_ost (pv 0) (pv 1)), err_init h (by obtain ⟨_, _, rfl, _⟩ := h; rfl) fun _ q => q⟩)
abbrev s_err_BadBit : Stmt := inClass (topS 2) 0
theorem sc_err_BadBit : FnScope ["self", "bit"] ["self", "bit"] (defScope s_err_BadBit) := ⟨rfl, rfl, rfl, by decide +kernel, rfl, by decide +kernel, by decide +kernel⟩
theorem ok_err_BadBit {Pg : Program} {w : World} {K : PySem.W.Frag} {mg : Str → Option Value} {base : Heap} {a C : Addr} {fd : FuncData} (F : L2.Fun K "__init__" "BadBit.__init__" s_err_BadBit a fd) : FnOk Pg w K mg base CX0 1 a fd ["self", "bit"] (spErr K C "bit") :=
  F.ok sc_err_BadBit (fun vs H Q E h => by obtain ⟨_, _, rfl, _⟩ := h; rfl) (fun cdv A outer s H vs Q E hr h => ⟨_, pss_one (ps_ost (pv 0) (pv 1)), err_init h (by obtain ⟨_, _, rfl, _⟩ := h; rfl) fun _ q => q⟩)
theorem pI_len (xs : List Int) : (pI xs).length = xs.length := List.length_map _
def pN (w : List Nat) : List P := w.map fun (k : Nat) => P.int (k : Int)
theorem pN_len (w : List Nat) : (pN w).length = w.length := List.length_map _
theorem pN_snoc (w : List Nat) (k : Nat) : pN (w ++ [k]) = pN w ++ [.int (k : Int)] := by unfold pN; rw [List.map_append]; rfl
theorem atI_map' {α : Type} {f : α → P} {xs : List α} {j : Nat} {x : α} (h : xs[j]? = some x) : atI (xs.map f) (j : Int) = some (f x) := atI_nat (by rw [List.getElem?_map, h]; rfl)
theorem get_of {α : Type} {xs : List α} {i : Nat} {d : α} (h : i < xs.length) : xs[i]? = some (xs.getD i d) := by
  rw [List.getD_eq_getElem?_getD, List.getElem?_eq_getElem h]; rfl
theorem atI_getD {xs : List Int} {j : Nat} (h : j < xs.length) : atI (pI xs) (j : Int) = some (.int (xs.getD j 0)) := atI_map' (get_of h)
theorem md (d : Int) {n : Int} (h : 0 < n) : ∃ t : Nat, d % n = (t : Int) ∧ (t : Int) < n := by
  have h0 := Int.emod_nonneg d (show n ≠ 0 by omega)
  have h1 := Int.emod_lt_of_pos d h
  obtain ⟨t, ht⟩ := Int.eq_ofNat_of_zero_le h0
  exact ⟨t, ht, by rw [← ht]; exact h1⟩
def mkS (l : List Nat) : Str := ⟨l.toArray⟩
theorem mkS_cps (l : List Nat) : (mkS l).cps.toList = l := rfl
theorem mkS_len (l : List Nat) : (mkS l).length = l.length := by show l.toArray.size = _; simp
theorem str_eta (s : Str) : s = mkS s.cps.toList := rfl
theorem mkS_inj {a b : List Nat} (h : mkS a = mkS b) : a = b := by have := congrArg (fun s : Str => s.cps.toList) h; exact this
theorem cut_to (l : List Nat) (k : Nat) : cutS (mkS l) none (some (k : Int)) = mkS (l.take k) := by
  unfold cutS
  rw [mkS_len, mkS_cps, HT.sIx_none, HT.sIx_nat, List.drop_zero, Nat.sub_zero]
  show mkS (l.take (min k l.length)) = _
  by_cases h : k ≤ l.length
  · rw [Nat.min_eq_left h]
  · rw [Nat.min_eq_right (by omega), List.take_length, List.take_of_length_le (by omega)]
theorem cut_from (l : List Nat) (k : Nat) : cutS (mkS l) (some (k : Int)) none = mkS (l.drop k) := by
  unfold cutS
  rw [mkS_len, mkS_cps, HT.sIx_none, HT.sIx_nat]
  show mkS _ = _
  congr 1
  rw [show l.drop (min k l.length) = l.drop k by
    by_cases h : k ≤ l.length
    · rw [Nat.min_eq_left h]
    · rw [Nat.min_eq_right (by omega), List.drop_length, List.drop_eq_nil_of_le (by omega)]]
  exact List.take_of_length_le (by rw [List.length_drop]; omega)
theorem cut_m1 (l : List Nat) : cutS (mkS l) none (some (-1)) = mkS (l.take (l.length - 1)) := by
  unfold cutS
  rw [mkS_len, mkS_cps, HT.sIx_none, List.drop_zero, Nat.sub_zero]
  show mkS _ = _
  congr 2
  unfold HT.sIx
  show (if (-1 : Int) < 0 then ((-1 : Int) + (l.length : Int)).toNat else _) = _
  rw [if_pos (by decide)]
  omega
theorem app_mk (a b : List Nat) : mkS a ++ mkS b = mkS (a ++ b) := by
  show (⟨a.toArray ++ b.toArray⟩ : Str) = _
  unfold mkS
  rw [List.append_toArray]
theorem join_mk (l : List Nat) : Txt.join (Str.ofString "") (l.map fun c => mkS [c]) = mkS l := by
  have fold : ∀ (r : List Nat) (acc : Array Nat), ((r.map fun c => mkS [c]).foldl (fun acc p => acc ++ (Str.ofString "").cps ++ p.cps) acc).toList = acc.toList ++ r := fun r => by
    induction r with
    | nil => intro acc; simp
    | cons c r ih =>
      intro acc
      rw [List.map_cons, List.foldl_cons, ih]
      have h0 : (Str.ofString "").cps = #[] := by decide +kernel
      rw [h0]
      show (acc ++ #[] ++ #[c]).toList ++ r = _
      simp
  cases l with
  | nil => rfl
  | cons c r =>
    have h := fold r #[c]
    have e : (Txt.join (Str.ofString "") ((c :: r).map fun c => mkS [c])).cps.toList = c :: r := h
    rw [str_eta (Txt.join _ _), e]
theorem sign_at {z : Str} (h : 0 < z.length) (d : Int) : ∃ c, atI z.cps.toList (d % (z.length : Int)) = some c ∧ c ∈ z.cps.toList := by
  have h0 := Int.emod_nonneg d (show (z.length : Int) ≠ 0 by omega)
  have h1 := Int.emod_lt_of_pos d (show (0 : Int) < (z.length : Int) by omega)
  obtain ⟨t, ht⟩ := Int.eq_ofNat_of_zero_le h0
  rw [ht] at h1 ⊢
  have hl : z.cps.toList.length = z.length := Array.length_toList
  have ht2 : t < z.cps.toList.length := by omega
  exact ⟨z.cps.toList[t], atI_nat (List.getElem?_eq_getElem ht2), List.getElem_mem ht2⟩
theorem least {C : Nat → Prop} (h : ∃ n, C n) : ∃ n, C n ∧ ∀ m, C m → n ≤ m := by
  obtain ⟨n, hn⟩ := h
  revert hn
  induction n using Nat.strongRecOn with
  | _ n ih =>
    intro hn
    by_cases hm : ∃ m, m < n ∧ C m
    · obtain ⟨m, h1, h2⟩ := hm
      exact ih m h1 h2
    · exact ⟨n, hn, fun m hm' => Nat.le_of_not_lt fun hlt => hm ⟨m, hlt, hm'⟩⟩
theorem at_lit {xs : List P} {n : Int} {R : P → Prop} (hn : n = (xs.length : Int)) (h0 : 0 < xs.length) (d : Int) (h : ∀ p ∈ xs, R p) : ∃ p, atI xs (d % n) = some p ∧ R p := by
  subst hn
  obtain ⟨t, ht, hl⟩ := md d (show (0 : Int) < (xs.length : Int) by omega)
  rw [ht]
  have hl2 : t < xs.length := by omega
  exact ⟨xs[t], atI_nat (List.getElem?_eq_getElem hl2), h _ (List.getElem_mem hl2)⟩
theorem sign_ix {z : Str} {R : Nat → Prop} (h0 : 0 < z.length) (d : Int) (h : ∀ c ∈ z.cps.toList, R c) : ∃ c, atI z.cps.toList (d % (z.length : Int)) = some c ∧ R c := by
  obtain ⟨c, h1, h2⟩ := sign_at h0 d
  exact ⟨c, h1, h c h2⟩
theorem mem_nf {α : Type} {x : α} {l : List α} [Decidable (x ∈ l)] {b : Bool} (h : b = false) (e : b = !decide (x ∈ l)) : x ∈ l := by
  rw [e] at h
  by_cases hx : x ∈ l
  · exact hx
  · rw [decide_eq_false hx] at h; cases h
theorem mem_nt {α : Type} {x : α} {l : List α} [Decidable (x ∈ l)] {b : Bool} (h : b = true) (e : b = !decide (x ∈ l)) : x ∉ l := by
  rw [e] at h
  by_cases hx : x ∈ l
  · rw [decide_eq_true hx] at h; cases h
  · exact hx
theorem mem_t {α : Type} {x : α} {l : List α} [Decidable (x ∈ l)] {b : Bool} (h : b = true) (e : b = decide (x ∈ l)) : x ∈ l := of_decide_eq_true (e.symm.trans h)
theorem mem_f {α : Type} {x : α} {l : List α} [Decidable (x ∈ l)] {b : Bool} (h : b = false) (e : b = decide (x ∈ l)) : x ∉ l := of_decide_eq_false (e.symm.trans h)
def EndS (e : Str) : Prop := e = Str.ofString "first" ∨ e = Str.ofString "second"
def bitOk (b : Int) : Prop := b = 0 ∨ b = 1
def fateL : List Nat := [98, 102, 115, 110]
theorem fates_cps : (Str.ofString "bfsn").cps.toList = fateL := by decide +kernel
def exP (c : Addr) (a b : Int) (l : List Nat) : P := .ins c [("first_bit", .int a), ("second_bit", .int b), ("fates", .str (mkS l))]
def heard (e : Str) : List Nat := if e = Str.ofString "first" then [98, 102] else [98, 115]
def idxs (h l : List Nat) : List Nat := (List.range l.length).filter fun i => decide (l.getD i 0 ∈ h)
theorem pN_filter (f : Nat → Bool) (j : Nat) : pN ((List.range (j + 1)).filter f) = if f j = true then pN ((List.range j).filter f) ++ [.int (j : Int)] else pN ((List.range j).filter f) := by
  rw [List.range_succ, List.filter_append]
  by_cases h : f j = true
  · rw [if_pos h, List.filter_cons_of_pos h, List.filter_nil, pN_snoc]
  · rw [if_neg h, List.filter_cons_of_neg h, List.filter_nil, List.append_nil]
def ownB (e : Str) (a b : Int) : Int := if e = Str.ofString "second" then b else a
def othB (e : Str) (a b : Int) : Int := if e = Str.ofString "second" then a else b
def viewP (e : Str) (a b : Int) (l : List Nat) : P := match (idxs (heard e) l).getLast? with
  | none => .tup [.int (ownB e a b), .non, .str (mkS []), .int (l.length : Int)]
  | some k => .tup [.int (ownB e a b), .int (othB e a b), .str (mkS (l.take k)), .int ((l.length : Int) - (k : Int) - 1)]
theorem heard_look {e : Str} (he : EndS e) : ∃ y : Str, [(Str.ofString "first", Str.ofString "bf"), (Str.ofString "second", Str.ofString "bs")].lookup e = some y ∧ y.cps.toList = heard e := by
  rcases he with rfl | rfl
  · exact ⟨Str.ofString "bf", by decide +kernel, by decide +kernel⟩
  · exact ⟨Str.ofString "bs", by decide +kernel, by decide +kernel⟩
theorem atI_last {A : List Nat} {k : Nat} (h : A.getLast? = some k) : atI (pN A) (-1) = some (.int (k : Int)) := by
  have hne : A ≠ [] := fun h0 => by rw [h0] at h; cases h
  refine atI_m1 ?_
  have h1 : A[A.length - 1]? = some k := by rw [← List.getLast?_eq_getElem?]; exact h
  show (A.map fun (k : Nat) => P.int (k : Int))[(A.map fun (k : Nat) => P.int (k : Int)).length - 1]? = _
  exact last_map (f := fun (k : Nat) => P.int (k : Int)) h1
theorem fate_lt {c : Nat} (h : c ∈ fateL) : c < 1114112 := by
  simp only [fateL, List.mem_cons, List.not_mem_nil, or_false] at h
  omega
theorem shp_cps {l : List Nat} (h : ∀ c ∈ l, c < 1114112) : Shp (.str (mkS l)) 0 := ⟨by
  show PyData.strOk (mkS l) = true
  unfold PyData.strOk
  rw [Array.all_eq_true]
  intro i hi
  exact decide_eq_true (h _ (Array.getElem_mem (xs := l.toArray) hi |> List.mem_toArray.mp)), Nat.le_refl _⟩
theorem shp_view (e : Str) (a b : Int) {l : List Nat} (hl : ∀ c ∈ l, c ∈ fateL) : Shp (viewP e a b l) 1 := by
  unfold viewP
  split
  · refine Shp.tup (f := fun p : P => p) (xs := [.int (ownB e a b), .non, .str (mkS []), .int (l.length : Int)]) fun x hx => ?_
    simp only [List.mem_cons, List.not_mem_nil, or_false] at hx
    rcases hx with rfl | rfl | rfl | rfl
    · exact shp_int _
    · exact shp_non
    · exact shp_cps fun c hc => (by cases hc)
    · exact shp_int _
  · rename_i k _
    refine Shp.tup (f := fun p : P => p) (xs := [.int (ownB e a b), .int (othB e a b), .str (mkS (l.take k)), .int ((l.length : Int) - (k : Int) - 1)]) fun x hx => ?_
    simp only [List.mem_cons, List.not_mem_nil, or_false] at hx
    rcases hx with rfl | rfl | rfl | rfl
    · exact shp_int _
    · exact shp_int _
    · exact shp_cps fun c hc => fate_lt (hl c (List.mem_of_mem_take hc))
    · exact shp_int _
theorem idxs_lt {h l : List Nat} {k : Nat} (hk : k ∈ idxs h l) : k < l.length := List.mem_range.mp (List.mem_filter.mp hk).1
theorem emp_eq : Str.ofString "" = mkS [] := by decide +kernel
def exT (a b : Int) (l : List Nat) : P := .tup [.int a, .int b, .str (mkS l)]
def FateOk (l : List Nat) : Prop := ∀ c ∈ l, c ∈ fateL
instance (l : List Nat) : Decidable (FateOk l) := inferInstanceAs (Decidable (∀ c ∈ l, c ∈ fateL))
/-! ### Exchange.__eq__ -/
abbrev s_Exchange_m___eq__ : Stmt := inClass (topS 12) 2
theorem sc_Exchange_m___eq__ : FnScope ["self", "other"] ["self", "other"] (defScope s_Exchange_m___eq__) := ⟨rfl, rfl, rfl, by decide +kernel, rfl, by decide +kernel, by decide +kernel⟩
def fs_Exchange_m___eq__ (cExchange cHouseError cBadBit cBadEnd cBadFate cENDS cARRIVING : Addr) : FSp := fun ds Q => ∃ (a b : Int) (l : List Nat) (c d : Int) (m : List Nat), ds = [.sh (exP cExchange a b l), .sh (exP cExchange c d m)] ∧ Q (.sh (.bl (decide (a = c ∧ b = d ∧ l = m)))) ds
theorem ok_Exchange_m___eq__ {Pg : Program} {w : World} {K : PySem.W.Frag} {mg : Str → Option Value} {base : Heap} {a : Addr} {fd : FuncData} (F : L2.Fun K "__eq__" "Exchange.__eq__" s_Exchange_m___eq__ a fd)
    (m_isinstance : mg "isinstance" = none)
    {cExchange cHouseError cBadBit cBadEnd cBadFate cENDS cARRIVING : Addr} (T : Txt K mg cExchange cHouseError cBadBit cBadEnd cBadFate cENDS cARRIVING) :
    FnOk Pg w K mg base CX0 1 a fd ["self", "other"] (spD K (fs_Exchange_m___eq__ cExchange cHouseError cBadBit cBadEnd cBadFate cENDS cARRIVING)) := by
  have n_Exchange_first_bit : ClsA K cExchange "first_bit" := ⟨T.cl_Exchange, T.n_Exchange_first_bit⟩
  have n_Exchange_second_bit : ClsA K cExchange "second_bit" := ⟨T.cl_Exchange, T.n_Exchange_second_bit⟩
  have n_Exchange_fates : ClsA K cExchange "fates" := ⟨T.cl_Exchange, T.n_Exchange_fates⟩
  have is_Exchange := T.is_Exchange
  refine Fun.okD [] F sc_Exchange_m___eq__ (fun ds QD h => ?_) (fun cdv A outer s H E hr => ⟨_, _, (dss_one (ds_ret (de_and (de_cb (fun h => pe_callB call_isO (by rfl) m_isinstance (by decide +kernel) h) cs_isiO (da_cons (de_v 1 (pv 1)) (da_cons (de_glob (v := .ref cExchange) (p := .ob cExchange) (pe_glob (by rfl) T.mg_Exchange rfl) (fun _ => rfl)) da_nil))) (de_and (de_cmp op_eq os_eq (de_fld (de_v 0 (pv 0))) (de_fld (de_v 1 (pv 1))) (nomark _)) (de_and (de_cmp op_eq os_eq (de_fld (de_v 0 (pv 0))) (de_fld (de_v 1 (pv 1))) (nomark _)) (de_one (de_cmp op_eq os_eq (de_fld (de_v 0 (pv 0))) (de_fld (de_v 1 (pv 1))) (nomark _)))))))), fun ds QD h => ?_⟩)
  · first
      | (obtain ⟨rfl, _⟩ := h; exact ⟨rfl, rfl⟩)
      | (obtain ⟨_, rfl, _⟩ := h; exact ⟨rfl, rfl⟩)
      | (obtain ⟨_, _, rfl, _⟩ := h; exact ⟨rfl, rfl⟩)
      | (obtain ⟨_, _, _, rfl, _⟩ := h; exact ⟨rfl, rfl⟩)
      | (obtain ⟨_, _, _, _, rfl, _⟩ := h; exact ⟨rfl, rfl⟩)
      | (obtain ⟨_, _, _, _, _, rfl, _⟩ := h; exact ⟨rfl, rfl⟩)
      | (obtain ⟨_, _, _, _, _, _, rfl, _⟩ := h; exact ⟨rfl, rfl⟩)
      | (obtain ⟨_, _, _, _, _, _, _, rfl, _⟩ := h; exact ⟨rfl, rfl⟩)
      | (obtain ⟨_, _, _, _, _, _, _, _, rfl, _⟩ := h; exact ⟨rfl, rfl⟩)
      | (obtain ⟨_, _, _, _, _, _, _, _, _, rfl, _⟩ := h; exact ⟨rfl, rfl⟩)
      | (obtain ⟨_, _, _, _, _, _, _, _, _, _, rfl, _⟩ := h; exact ⟨rfl, rfl⟩)
      | (obtain ⟨_, _, _, _, _, _, _, _, _, _, _, rfl, _⟩ := h; exact ⟨rfl, rfl⟩)
  · obtain ⟨a, b, l, c, d, m, rfl, q⟩ := h
    unfold exP
    walk_at "ax"
    · rename_i h1 h2
      have e : decide (a = c ∧ b = d ∧ l = m) = decide (mkS l = mkS m) := decide_eq_decide.mpr ⟨fun h => by rw [h.2.2], fun h => ⟨h1, h2, mkS_inj h⟩⟩
      rw [e] at q
      exact q
    · rename_i h2
      rw [decide_eq_false fun h => h2 h.2.1] at q
      exact q
    · rename_i h1
      rw [decide_eq_false fun h => h1 h.1] at q
      exact q
/-! ### Exchange.__len__ -/
abbrev s_Exchange_m___len__ : Stmt := inClass (topS 12) 1
theorem sc_Exchange_m___len__ : FnScope ["self"] ["self"] (defScope s_Exchange_m___len__) := ⟨rfl, rfl, rfl, by decide +kernel, rfl, by decide +kernel, by decide +kernel⟩
def fs_Exchange_m___len__ (cExchange cHouseError cBadBit cBadEnd cBadFate cENDS cARRIVING : Addr) : FSp := fun ds Q => ∃ (a b : Int) (l : List Nat), ds = [.sh (exP cExchange a b l)] ∧ l.length ≤ 1000 ∧ Q (.sh (.int (l.length : Int))) ds
theorem ok_Exchange_m___len__ {Pg : Program} {w : World} {K : PySem.W.Frag} {mg : Str → Option Value} {base : Heap} {a : Addr} {fd : FuncData} (F : L2.Fun K "__len__" "Exchange.__len__" s_Exchange_m___len__ a fd)
    (m_len : mg "len" = none)
    {cExchange cHouseError cBadBit cBadEnd cBadFate cENDS cARRIVING : Addr} (T : Txt K mg cExchange cHouseError cBadBit cBadEnd cBadFate cENDS cARRIVING) :
    FnOk Pg w K mg base CX0 1 a fd ["self"] (spD K (fs_Exchange_m___len__ cExchange cHouseError cBadBit cBadEnd cBadFate cENDS cARRIVING)) := by
  have n_Exchange_first_bit : ClsA K cExchange "first_bit" := ⟨T.cl_Exchange, T.n_Exchange_first_bit⟩
  have n_Exchange_second_bit : ClsA K cExchange "second_bit" := ⟨T.cl_Exchange, T.n_Exchange_second_bit⟩
  have n_Exchange_fates : ClsA K cExchange "fates" := ⟨T.cl_Exchange, T.n_Exchange_fates⟩
  have is_Exchange := T.is_Exchange
  refine Fun.okD [] F sc_Exchange_m___len__ (fun ds QD h => ?_) (fun cdv A outer s H E hr => ⟨_, _, (dss_one (ds_ret (de_cb (fun h => pe_callB call_len (by rfl) m_len PySem.boot_len h) cs_len (da_cons (de_fld (de_v 0 (pv 0))) da_nil)))), fun ds QD h => ?_⟩)
  · first
      | (obtain ⟨rfl, _⟩ := h; exact ⟨rfl, rfl⟩)
      | (obtain ⟨_, rfl, _⟩ := h; exact ⟨rfl, rfl⟩)
      | (obtain ⟨_, _, rfl, _⟩ := h; exact ⟨rfl, rfl⟩)
      | (obtain ⟨_, _, _, rfl, _⟩ := h; exact ⟨rfl, rfl⟩)
      | (obtain ⟨_, _, _, _, rfl, _⟩ := h; exact ⟨rfl, rfl⟩)
      | (obtain ⟨_, _, _, _, _, rfl, _⟩ := h; exact ⟨rfl, rfl⟩)
      | (obtain ⟨_, _, _, _, _, _, rfl, _⟩ := h; exact ⟨rfl, rfl⟩)
      | (obtain ⟨_, _, _, _, _, _, _, rfl, _⟩ := h; exact ⟨rfl, rfl⟩)
      | (obtain ⟨_, _, _, _, _, _, _, _, rfl, _⟩ := h; exact ⟨rfl, rfl⟩)
      | (obtain ⟨_, _, _, _, _, _, _, _, _, rfl, _⟩ := h; exact ⟨rfl, rfl⟩)
      | (obtain ⟨_, _, _, _, _, _, _, _, _, _, rfl, _⟩ := h; exact ⟨rfl, rfl⟩)
      | (obtain ⟨_, _, _, _, _, _, _, _, _, _, _, rfl, _⟩ := h; exact ⟨rfl, rfl⟩)
  · obtain ⟨a, b, l, rfl, hl, q⟩ := h
    have el := mkS_len l
    have hz := sizeLine_eq
    unfold exP
    walk_at "ax"
    rw [el]
    exact q
/-! ### _law_cell -/
abbrev s__law_cell : Stmt := topS 15
theorem sc__law_cell : FnScope ["script", "k"] ["script", "k"] (defScope s__law_cell) := ⟨rfl, rfl, rfl, by decide +kernel, rfl, by decide +kernel, by decide +kernel⟩
def fs__law_cell (cExchange cHouseError cBadBit cBadEnd cBadFate cENDS cARRIVING : Addr) : FSp := fun ds Q => ∃ (ns : List Int) (k : Nat), ds = [.sh (.rol (pI ns)), .sh (.int (k : Int))] ∧ Q (.sh (.int (ns.getD k 0))) ds
theorem ok__law_cell {Pg : Program} {w : World} {K : PySem.W.Frag} {mg : Str → Option Value} {base : Heap} {a : Addr} {fd : FuncData} (F : L2.Fun K "_law_cell" "_law_cell" s__law_cell a fd)
    (m_len : mg "len" = none)
    (m_int : mg "int" = none)
    {cExchange cHouseError cBadBit cBadEnd cBadFate cENDS cARRIVING : Addr} (T : Txt K mg cExchange cHouseError cBadBit cBadEnd cBadFate cENDS cARRIVING) :
    FnOk Pg w K mg base CX0 1 a fd ["script", "k"] (spD K (fs__law_cell cExchange cHouseError cBadBit cBadEnd cBadFate cENDS cARRIVING)) := by
  have n_Exchange_first_bit : ClsA K cExchange "first_bit" := ⟨T.cl_Exchange, T.n_Exchange_first_bit⟩
  have n_Exchange_second_bit : ClsA K cExchange "second_bit" := ⟨T.cl_Exchange, T.n_Exchange_second_bit⟩
  have n_Exchange_fates : ClsA K cExchange "fates" := ⟨T.cl_Exchange, T.n_Exchange_fates⟩
  have is_Exchange := T.is_Exchange
  refine Fun.okD [] F sc__law_cell (fun ds QD h => ?_) (fun cdv A outer s H E hr => ⟨_, _, (dss_cons (ds_if (dt_cmp op_lt os_lt (de_v 1 (pv 1)) (de_cb (fun h => pe_callB call_len (by rfl) m_len PySem.boot_len h) cs_len (da_cons (de_v 0 (pv 0)) da_nil)) (nomark _))
    (dss_one (ds_ret (de_cb (fun h => pe_callTy call_int1 (by rfl) m_int (by decide +kernel) h) cs_int (da_cons (de_ix ix_seq os_ix (de_v 0 (pv 0)) (de_v 1 (pv 1))) da_nil))))
    dss_nil)
    (dss_one (ds_ret de_int))), fun ds QD h => ?_⟩)
  · first
      | (obtain ⟨rfl, _⟩ := h; exact ⟨rfl, rfl⟩)
      | (obtain ⟨_, rfl, _⟩ := h; exact ⟨rfl, rfl⟩)
      | (obtain ⟨_, _, rfl, _⟩ := h; exact ⟨rfl, rfl⟩)
      | (obtain ⟨_, _, _, rfl, _⟩ := h; exact ⟨rfl, rfl⟩)
      | (obtain ⟨_, _, _, _, rfl, _⟩ := h; exact ⟨rfl, rfl⟩)
      | (obtain ⟨_, _, _, _, _, rfl, _⟩ := h; exact ⟨rfl, rfl⟩)
      | (obtain ⟨_, _, _, _, _, _, rfl, _⟩ := h; exact ⟨rfl, rfl⟩)
      | (obtain ⟨_, _, _, _, _, _, _, rfl, _⟩ := h; exact ⟨rfl, rfl⟩)
      | (obtain ⟨_, _, _, _, _, _, _, _, rfl, _⟩ := h; exact ⟨rfl, rfl⟩)
      | (obtain ⟨_, _, _, _, _, _, _, _, _, rfl, _⟩ := h; exact ⟨rfl, rfl⟩)
      | (obtain ⟨_, _, _, _, _, _, _, _, _, _, rfl, _⟩ := h; exact ⟨rfl, rfl⟩)
      | (obtain ⟨_, _, _, _, _, _, _, _, _, _, _, rfl, _⟩ := h; exact ⟨rfl, rfl⟩)
  · obtain ⟨ns, k, rfl, q⟩ := h
    conv => whnf
    refine ⟨fun e => ?_, fun e => ?_⟩
    · conv => whnf
      have hk : k < ns.length := by
        have := of_decide_eq_true e
        simp only [List.length_map] at this
        omega
      refine ⟨_, atI_map hk, ?_⟩
      refine ⟨rfl, ?_⟩
      rw [show ns.getD k 0 = ns[k] by rw [List.getD_eq_getElem?_getD, List.getElem?_eq_getElem hk]; rfl] at q
      exact q
    · have hk : ¬ k < ns.length := by
        have := of_decide_eq_false e
        simp only [List.length_map] at this
        omega
      rw [show ns.getD k 0 = 0 by rw [List.getD_eq_getElem?_getD, List.getElem?_eq_none (by omega)]; rfl] at q
      exact ⟨rfl, q⟩
/-! ### _law_draws -/
abbrev s__law_draws : Stmt := topS 16
theorem sc__law_draws : FnScope ["cell", "many", "rest", "large", "seed", "found", "k"] ["cell", "many"] (defScope s__law_draws) := ⟨rfl, rfl, rfl, by decide +kernel, rfl, by decide +kernel, by decide +kernel⟩
/-- one draw: the seed, what is left of the cell, the draws -/
def dstep (large : Bool) (i : Nat) (s : Int × Int × List Int) : Int × Int × List Int :=
  let seed := (s.1 * 48271 + 40692 * (i : Int) + 69621) % 2147483647
  if large = true ∧ 0 < s.2.1 then (seed, s.2.1 / 1000000, s.2.2 ++ [s.2.1 % 1000000])
  else (seed, s.2.1, s.2.2 ++ [((seed * 16807 + 7919 * (i : Int)) % 2147483629 / 1009) % 1000000])
def dst (large : Bool) (seed rest : Int) : Nat → Int × Int × List Int
  | 0 => (seed, rest, [])
  | i + 1 => dstep large i (dst large seed rest i)
def absI (c : Int) : Int := if c < 0 then -c else c
def drawsF (c : Int) (many : Nat) : List Int := (dst (decide (10 ^ 18 ≤ absI c)) (absI c % 2147483647) (absI c) many).2.2
theorem absI_nn (c : Int) : 0 ≤ absI c := by unfold absI; split <;> omega
structure DOk (i : Nat) (s : Int × Int × List Int) : Prop where
  s0 : 0 ≤ s.1
  s1 : s.1 < 2147483648
  r0 : 0 ≤ s.2.1
  len : s.2.2.length = i
  rg : ∀ d ∈ s.2.2, 0 ≤ d ∧ d < 1000000
theorem dstep_ok {large : Bool} {i : Nat} {s : Int × Int × List Int} (h : DOk i s) : DOk (i + 1) (dstep large i s) := by
  unfold dstep
  have e0 : 0 ≤ (s.1 * 48271 + 40692 * (i : Int) + 69621) % 2147483647 := Int.emod_nonneg _ (by decide)
  have e1 : (s.1 * 48271 + 40692 * (i : Int) + 69621) % 2147483647 < 2147483647 := Int.emod_lt_of_pos _ (by decide)
  dsimp only
  split
  · refine ⟨e0, by omega, Int.ediv_nonneg h.r0 (by decide), by rw [List.length_append, h.len]; rfl, fun d hd => ?_⟩
    rcases List.mem_append.mp hd with hd | hd
    · exact h.rg d hd
    · rw [List.mem_singleton.mp hd]
      exact ⟨Int.emod_nonneg _ (by decide), Int.emod_lt_of_pos _ (by decide)⟩
  · refine ⟨e0, by omega, h.r0, by rw [List.length_append, h.len]; rfl, fun d hd => ?_⟩
    rcases List.mem_append.mp hd with hd | hd
    · exact h.rg d hd
    · rw [List.mem_singleton.mp hd]
      exact ⟨Int.emod_nonneg _ (by decide), Int.emod_lt_of_pos _ (by decide)⟩
theorem dst_ok {large : Bool} {seed rest : Int} (h0 : 0 ≤ seed) (h1 : seed < 2147483648) (h2 : 0 ≤ rest) : ∀ i, DOk i (dst large seed rest i)
  | 0 => ⟨h0, h1, h2, rfl, fun d hd => absurd hd List.not_mem_nil⟩
  | i + 1 => dstep_ok (dst_ok h0 h1 h2 i)
theorem draws_ok (c : Int) (many : Nat) : DOk many (dst (decide (10 ^ 18 ≤ absI c)) (absI c % 2147483647) (absI c) many) :=
  dst_ok (Int.emod_nonneg _ (by decide)) (by have := Int.emod_lt_of_pos (absI c) (show (0 : Int) < 2147483647 by decide); omega) (absI_nn c) many
theorem drawsF_len (c : Int) (many : Nat) : (drawsF c many).length = many := (draws_ok c many).len
theorem drawsF_rg (c : Int) (many : Nat) : ∀ d ∈ drawsF c many, 0 ≤ d ∧ d < 1000000 := (draws_ok c many).rg
def fs__law_draws (cExchange cHouseError cBadBit cBadEnd cBadFate cENDS cARRIVING : Addr) : FSp := fun ds Q => ∃ (c : Int) (many : Nat), ds = [.sh (.int c), .sh (.int (many : Int))] ∧ many ≤ 100000 ∧ Q (.ol (pI (drawsF c many))) ds
theorem ok__law_draws {Pg : Program} {w : World} {K : PySem.W.Frag} {mg : Str → Option Value} {base : Heap} {a : Addr} {fd : FuncData} (F : L2.Fun K "_law_draws" "_law_draws" s__law_draws a fd)
    (m_abs : mg "abs" = none)
    (m_int : mg "int" = none)
    (m_range : mg "range" = none)
    {cExchange cHouseError cBadBit cBadEnd cBadFate cENDS cARRIVING : Addr} (T : Txt K mg cExchange cHouseError cBadBit cBadEnd cBadFate cENDS cARRIVING) :
    FnOk Pg w K mg base CX0 1 a fd ["cell", "many"] (spD K (fs__law_draws cExchange cHouseError cBadBit cBadEnd cBadFate cENDS cARRIVING)) := by
  have n_Exchange_first_bit : ClsA K cExchange "first_bit" := ⟨T.cl_Exchange, T.n_Exchange_first_bit⟩
  have n_Exchange_second_bit : ClsA K cExchange "second_bit" := ⟨T.cl_Exchange, T.n_Exchange_second_bit⟩
  have n_Exchange_fates : ClsA K cExchange "fates" := ⟨T.cl_Exchange, T.n_Exchange_fates⟩
  have is_Exchange := T.is_Exchange
  refine Fun.okD [] F sc__law_draws (fun ds QD h => ?_) (fun cdv A outer s H E hr => ⟨_, _, (dss_cons (ds_asg (de_cb (fun h => pe_callB call_abs (by rfl) m_abs (by decide +kernel) h) cs_abs (da_cons (de_cb (fun h => pe_callTy call_int1 (by rfl) m_int (by decide +kernel) h) cs_int (da_cons (de_v 0 (pv 0)) da_nil)) da_nil)) (dg_name (pg_name (i := 2) sc__law_draws.nd rfl (by first | exact .inl rfl | exact .inr rfl))))
    (dss_cons (ds_asg (de_cmp op_ge os_ge (de_v 2 (pv 2)) (de_op op_pow os_pow de_int de_int) (nomark _)) (dg_name (pg_name (i := 3) sc__law_draws.nd rfl (by first | exact .inl rfl | exact .inr rfl))))
    (dss_cons (ds_asg (de_op op_mod os_mod (de_cb (fun h => pe_callTy call_int1 (by rfl) m_int (by decide +kernel) h) cs_int (da_cons (de_v 2 (pv 2)) da_nil)) de_int) (dg_name (pg_name (i := 4) sc__law_draws.nd rfl (by first | exact .inl rfl | exact .inr rfl))))
    (dss_cons (ds_put (do_lst da_nil) (pg_name (i := 5) sc__law_draws.nd rfl (by first | exact .inl rfl | exact .inr rfl)))
    (dss_cons (ds_for PassesOwn.never rfl (di_rng1 (fun h => pi_range1 (by rfl) m_range h) (da_cons (de_v 1 (pv 1)) da_nil)) (dg_name (pg_name (i := 6) sc__law_draws.nd rfl (by first | exact .inl rfl | exact .inr rfl)))
    (dss_cons (ds_asg (de_op op_mod os_mod (de_cb (fun h => pe_callTy call_int1 (by rfl) m_int (by decide +kernel) h) cs_int (da_cons (de_op op_add os_add (de_op op_add os_add (de_op op_mulW os_mul (de_v 4 (pv 4)) de_int) (de_op op_mulW os_mul de_int (de_v 6 (pv 6)))) de_int) da_nil)) de_int) (dg_name (pg_name (i := 4) sc__law_draws.nd rfl (by first | exact .inl rfl | exact .inr rfl))))
    (dss_one (ds_if (DW.pt (dw_and (dt_tru (de_v 3 (pv 3))) (dw_and1 (dt_cmp op_gt os_gt (de_v 2 (pv 2)) de_int (nomark _)))))
    (dss_cons (ds_app (fun h => pe_bm PySem.F.plainAttrs_list PySem.F.slot_list_append PySem.F.type_list_append mt_append (pv 5) h) (de_op op_mod os_mod (de_cb (fun h => pe_callTy call_int1 (by rfl) m_int (by decide +kernel) h) cs_int (da_cons (de_v 2 (pv 2)) da_nil)) de_int))
    (dss_one (ds_asg (de_op op_fdivW os_div (de_v 2 (pv 2)) de_int) (dg_name (pg_name (i := 2) sc__law_draws.nd rfl (by first | exact .inl rfl | exact .inr rfl))))))
    (dss_one (ds_app (fun h => pe_bm PySem.F.plainAttrs_list PySem.F.slot_list_append PySem.F.type_list_append mt_append (pv 5) h) (de_op op_mod os_mod (de_cb (fun h => pe_callTy call_int1 (by rfl) m_int (by decide +kernel) h) cs_int (da_cons (de_op op_fdivW os_div (de_op op_mod os_mod (de_cb (fun h => pe_callTy call_int1 (by rfl) m_int (by decide +kernel) h) cs_int (da_cons (de_op op_add os_add (de_op op_mulW os_mul (de_v 4 (pv 4)) de_int) (de_op op_mulW os_mul de_int (de_v 6 (pv 6)))) da_nil)) de_int) de_int) da_nil)) de_int)))))))
    (dss_one (ds_retV 5 (pv 5)))))))), fun ds QD h => ?_⟩)
  · first
      | (obtain ⟨rfl, _⟩ := h; exact ⟨rfl, rfl⟩)
      | (obtain ⟨_, rfl, _⟩ := h; exact ⟨rfl, rfl⟩)
      | (obtain ⟨_, _, rfl, _⟩ := h; exact ⟨rfl, rfl⟩)
      | (obtain ⟨_, _, _, rfl, _⟩ := h; exact ⟨rfl, rfl⟩)
      | (obtain ⟨_, _, _, _, rfl, _⟩ := h; exact ⟨rfl, rfl⟩)
      | (obtain ⟨_, _, _, _, _, rfl, _⟩ := h; exact ⟨rfl, rfl⟩)
      | (obtain ⟨_, _, _, _, _, _, rfl, _⟩ := h; exact ⟨rfl, rfl⟩)
      | (obtain ⟨_, _, _, _, _, _, _, rfl, _⟩ := h; exact ⟨rfl, rfl⟩)
      | (obtain ⟨_, _, _, _, _, _, _, _, rfl, _⟩ := h; exact ⟨rfl, rfl⟩)
      | (obtain ⟨_, _, _, _, _, _, _, _, _, rfl, _⟩ := h; exact ⟨rfl, rfl⟩)
      | (obtain ⟨_, _, _, _, _, _, _, _, _, _, rfl, _⟩ := h; exact ⟨rfl, rfl⟩)
      | (obtain ⟨_, _, _, _, _, _, _, _, _, _, _, rfl, _⟩ := h; exact ⟨rfl, rfl⟩)
  · obtain ⟨c, many, rfl, hm, q⟩ := h
    have hz : sizeLine = 16777216 := sizeLine_eq
    conv => whnf
    refine And.intro rfl ?_
    conv => whnf
    refine And.intro ⟨by decide, by decide, by decide⟩ ?_
    walk_at "go"
    refine ⟨fun i env => ∃ kv, env = [some (.sh (.int c)), some (.sh (.int many)), some (.sh (.int (dst (decide (10 ^ 18 ≤ absI c)) (absI c % 2147483647) (absI c) i).2.1)), some (.sh (.bl (decide (10 ^ 18 ≤ absI c)))),
      some (.sh (.int (dst (decide (10 ^ 18 ≤ absI c)) (absI c % 2147483647) (absI c) i).1)), some (.ol (pI (dst (decide (10 ^ 18 ≤ absI c)) (absI c % 2147483647) (absI c) i).2.2)), kv], ⟨none, rfl⟩, fun i p e hp hI => ?_, fun e hI => ?_⟩
    · obtain ⟨kv, rfl⟩ := hI
      obtain ⟨hi, rfl⟩ := rngP_get hp
      have hi' : i < many := by simpa using hi
      have d0 := draws_ok c i
      revert d0
      generalize hd : dst (decide (10 ^ 18 ≤ absI c)) (absI c % 2147483647) (absI c) i = st
      intro d0
      have s0 := d0.s0
      have s1 := d0.s1
      have r0 := d0.r0
      have ln := d0.len
      walk_at "go"
      refine ⟨fun hl => ?_, fun hl => ?_⟩
      · walk_at "go"
        refine ⟨fun hg => ?_, fun hg => ?_⟩
        · have hg' : 0 < st.2.1 := of_decide_eq_true hg
          walk_at "go"
          refine ⟨some (.sh (.int (0 + (i : Int)))), ?_⟩
          have e1 : dst (decide (10 ^ 18 ≤ absI c)) (absI c % 2147483647) (absI c) (i + 1) = dstep (decide (10 ^ 18 ≤ absI c)) i st := by rw [← hd]; rfl
          rw [e1, show dstep (decide (10 ^ 18 ≤ absI c)) i st = _ from if_pos ⟨hl, hg'⟩]
          simp only [pI, List.map_append, List.map_cons, List.map_nil, Int.zero_add]
          rfl
        · have hg' : ¬ 0 < st.2.1 := of_decide_eq_false hg
          walk_at "go"
          refine ⟨some (.sh (.int (0 + (i : Int)))), ?_⟩
          have e1 : dst (decide (10 ^ 18 ≤ absI c)) (absI c % 2147483647) (absI c) (i + 1) = dstep (decide (10 ^ 18 ≤ absI c)) i st := by rw [← hd]; rfl
          rw [e1, show dstep (decide (10 ^ 18 ≤ absI c)) i st = _ from if_neg fun h => hg' h.2]
          simp only [pI, List.map_append, List.map_cons, List.map_nil, Int.zero_add]
          rfl
      · refine ⟨fun hg => Bool.noConfusion hg, fun _ => ?_⟩
        walk_at "go"
        refine ⟨some (.sh (.int (0 + (i : Int)))), ?_⟩
        have e1 : dst (decide (10 ^ 18 ≤ absI c)) (absI c % 2147483647) (absI c) (i + 1) = dstep (decide (10 ^ 18 ≤ absI c)) i st := by rw [← hd]; rfl
        rw [e1, show dstep (decide (10 ^ 18 ≤ absI c)) i st = _ from if_neg fun h => by rw [hl] at h; exact Bool.noConfusion h.1]
        simp only [pI, List.map_append, List.map_cons, List.map_nil, Int.zero_add]
        rfl
    · obtain ⟨kv, rfl⟩ := hI
      rw [rngP_len]
      exact ⟨rfl, q⟩
/-! ### _law_take -/
abbrev s__law_take : Stmt := topS 17
theorem sc__law_take : FnScope ["draws", "place"] ["draws", "place"] (defScope s__law_take) := ⟨rfl, rfl, rfl, by decide +kernel, rfl, by decide +kernel, by decide +kernel⟩
def fs__law_take (cExchange cHouseError cBadBit cBadEnd cBadFate cENDS cARRIVING : Addr) : FSp := fun ds Q => ∃ (rs : List Int) (k : Nat), ds = [.sh (.lst (pI rs)), .ol [.int (k : Int)]] ∧ Q (.sh (.int (rs.getD k 0))) [.sh (.lst (pI rs)), .ol [.int ((k + 1 : Nat) : Int)]]
theorem ok__law_take {Pg : Program} {w : World} {K : PySem.W.Frag} {mg : Str → Option Value} {base : Heap} {a : Addr} {fd : FuncData} (F : L2.Fun K "_law_take" "_law_take" s__law_take a fd)
    (m_len : mg "len" = none)
    {cExchange cHouseError cBadBit cBadEnd cBadFate cENDS cARRIVING : Addr} (T : Txt K mg cExchange cHouseError cBadBit cBadEnd cBadFate cENDS cARRIVING) :
    FnOk Pg w K mg base CX0 1 a fd ["draws", "place"] (spD K (fs__law_take cExchange cHouseError cBadBit cBadEnd cBadFate cENDS cARRIVING)) := by
  have n_Exchange_first_bit : ClsA K cExchange "first_bit" := ⟨T.cl_Exchange, T.n_Exchange_first_bit⟩
  have n_Exchange_second_bit : ClsA K cExchange "second_bit" := ⟨T.cl_Exchange, T.n_Exchange_second_bit⟩
  have n_Exchange_fates : ClsA K cExchange "fates" := ⟨T.cl_Exchange, T.n_Exchange_fates⟩
  have is_Exchange := T.is_Exchange
  refine Fun.okD [1] F sc__law_take (fun ds QD h => ?_) (fun cdv A outer s H E hr => ⟨_, _, (dss_cons (ds_setI (fun h => pg_sub (pv 1) h set_list) de_int (de_op op_add os_add (de_itm 1 (fun h => pe_ix ix_list (pv 1) h (fun _ _ => rfl)) de_int) de_int))
    (dss_cons (ds_if (dt_cmp op_gt os_gt (de_itm 1 (fun h => pe_ix ix_list (pv 1) h (fun _ _ => rfl)) de_int) (de_cb (fun h => pe_callB call_len (by rfl) m_len PySem.boot_len h) cs_len (da_cons (de_v 0 (pv 0)) da_nil)) (nomark _))
    (dss_one (ds_ret de_int))
    dss_nil)
    (dss_one (ds_ret (de_ix ix_seq os_ix (de_v 0 (pv 0)) (de_op op_sub os_sub (de_itm 1 (fun h => pe_ix ix_list (pv 1) h (fun _ _ => rfl)) de_int) de_int)))))), fun ds QD h => ?_⟩)
  · first
      | (obtain ⟨rfl, _⟩ := h; exact ⟨rfl, rfl⟩)
      | (obtain ⟨_, rfl, _⟩ := h; exact ⟨rfl, rfl⟩)
      | (obtain ⟨_, _, rfl, _⟩ := h; exact ⟨rfl, rfl⟩)
      | (obtain ⟨_, _, _, rfl, _⟩ := h; exact ⟨rfl, rfl⟩)
      | (obtain ⟨_, _, _, _, rfl, _⟩ := h; exact ⟨rfl, rfl⟩)
      | (obtain ⟨_, _, _, _, _, rfl, _⟩ := h; exact ⟨rfl, rfl⟩)
      | (obtain ⟨_, _, _, _, _, _, rfl, _⟩ := h; exact ⟨rfl, rfl⟩)
      | (obtain ⟨_, _, _, _, _, _, _, rfl, _⟩ := h; exact ⟨rfl, rfl⟩)
      | (obtain ⟨_, _, _, _, _, _, _, _, rfl, _⟩ := h; exact ⟨rfl, rfl⟩)
      | (obtain ⟨_, _, _, _, _, _, _, _, _, rfl, _⟩ := h; exact ⟨rfl, rfl⟩)
      | (obtain ⟨_, _, _, _, _, _, _, _, _, _, rfl, _⟩ := h; exact ⟨rfl, rfl⟩)
      | (obtain ⟨_, _, _, _, _, _, _, _, _, _, _, rfl, _⟩ := h; exact ⟨rfl, rfl⟩)
  · obtain ⟨rs, k, rfl, q⟩ := h
    walk_at "go"
    refine ⟨_, rfl, ?_⟩
    walk_at "go"
    refine ⟨0, rfl, ?_⟩
    walk_at "go"
    refine ⟨_, rfl, ?_⟩
    walk_at "go"
    have e1 : (k : Int) + 1 = ((k + 1 : Nat) : Int) := by omega
    refine ⟨fun hg => ?_, fun hg => ?_⟩
    · have hk : ¬ k < rs.length := by
        have := of_decide_eq_true hg
        simp only [pI, List.length_map] at this
        omega
      rw [show rs.getD k 0 = 0 by rw [List.getD_eq_getElem?_getD, List.getElem?_eq_none (by omega)]; rfl, ← e1] at q
      exact ⟨rfl, q⟩
    · have hk : k < rs.length := by
        have := of_decide_eq_false hg
        simp only [pI, List.length_map] at this
        omega
      walk_at "go"
      refine ⟨_, rfl, ?_⟩
      walk_at "go"
      rw [show rs.getD k 0 = rs[k] by rw [List.getD_eq_getElem?_getD, List.getElem?_eq_getElem hk]; rfl, ← e1] at q
      refine ⟨.int rs[k], ?_, ?_⟩
      · show atI (pI rs) ((k : Int) + 1 - 1) = _
        rw [show (k : Int) + 1 - 1 = (k : Int) by omega]
        exact atI_map hk
      · exact ⟨rfl, q⟩
/-! ### _law_wrong_bit -/
abbrev s__law_wrong_bit : Stmt := topS 20
theorem sc__law_wrong_bit : FnScope ["draw"] ["draw"] (defScope s__law_wrong_bit) := ⟨rfl, rfl, rfl, by decide +kernel, rfl, by decide +kernel, by decide +kernel⟩
def fs__law_wrong_bit (cExchange cHouseError cBadBit cBadEnd cBadFate cENDS cARRIVING : Addr) : FSp := fun ds Q => ∃ d : Int, ds = [.sh (.int d)] ∧ (0 ≤ d ∧ d < 1000000) ∧ ∀ v : Int, ¬ bitOk v → Q (.sh (.int v)) ds
theorem ok__law_wrong_bit {Pg : Program} {w : World} {K : PySem.W.Frag} {mg : Str → Option Value} {base : Heap} {a : Addr} {fd : FuncData} (F : L2.Fun K "_law_wrong_bit" "_law_wrong_bit" s__law_wrong_bit a fd)
    (m_int : mg "int" = none)
    {cExchange cHouseError cBadBit cBadEnd cBadFate cENDS cARRIVING : Addr} (T : Txt K mg cExchange cHouseError cBadBit cBadEnd cBadFate cENDS cARRIVING) :
    FnOk Pg w K mg base CX0 1 a fd ["draw"] (spD K (fs__law_wrong_bit cExchange cHouseError cBadBit cBadEnd cBadFate cENDS cARRIVING)) := by
  have n_Exchange_first_bit : ClsA K cExchange "first_bit" := ⟨T.cl_Exchange, T.n_Exchange_first_bit⟩
  have n_Exchange_second_bit : ClsA K cExchange "second_bit" := ⟨T.cl_Exchange, T.n_Exchange_second_bit⟩
  have n_Exchange_fates : ClsA K cExchange "fates" := ⟨T.cl_Exchange, T.n_Exchange_fates⟩
  have is_Exchange := T.is_Exchange
  refine Fun.okD [] F sc__law_wrong_bit (fun ds QD h => ?_) (fun cdv A outer s H E hr => ⟨_, _, (dss_cons (ds_if (dt_cmp op_eq os_eq (de_op op_mod os_mod (de_cb (fun h => pe_callTy call_int1 (by rfl) m_int (by decide +kernel) h) cs_int (da_cons (de_v 0 (pv 0)) da_nil)) de_int) de_int (nomark _))
    (dss_one (ds_ret (de_op op_sub os_sub (de_un un_neg us_neg de_int) (de_op op_fdivW os_div (de_v 0 (pv 0)) de_int))))
    dss_nil)
    (dss_cons (ds_if (dt_cmp op_eq os_eq (de_op op_mod os_mod (de_cb (fun h => pe_callTy call_int1 (by rfl) m_int (by decide +kernel) h) cs_int (da_cons (de_v 0 (pv 0)) da_nil)) de_int) de_int (nomark _))
    (dss_one (ds_ret (de_op op_add os_add (de_op op_pow os_pow de_int de_int) (de_v 0 (pv 0)))))
    dss_nil)
    (dss_cons (ds_if (dt_cmp op_eq os_eq (de_op op_mod os_mod (de_cb (fun h => pe_callTy call_int1 (by rfl) m_int (by decide +kernel) h) cs_int (da_cons (de_v 0 (pv 0)) da_nil)) de_int) de_int (nomark _))
    (dss_one (ds_ret (de_op op_add os_add de_int (de_op op_pow os_pow (de_op op_fdivW os_div (de_v 0 (pv 0)) de_int) de_int))))
    dss_nil)
    (dss_one (ds_ret (de_op op_add os_add de_int (de_op op_mod os_mod (de_cb (fun h => pe_callTy call_int1 (by rfl) m_int (by decide +kernel) h) cs_int (da_cons (de_op op_fdivW os_div (de_v 0 (pv 0)) de_int) da_nil)) de_int))))))), fun ds QD h => ?_⟩)
  · first
      | (obtain ⟨rfl, _⟩ := h; exact ⟨rfl, rfl⟩)
      | (obtain ⟨_, rfl, _⟩ := h; exact ⟨rfl, rfl⟩)
      | (obtain ⟨_, _, rfl, _⟩ := h; exact ⟨rfl, rfl⟩)
      | (obtain ⟨_, _, _, rfl, _⟩ := h; exact ⟨rfl, rfl⟩)
      | (obtain ⟨_, _, _, _, rfl, _⟩ := h; exact ⟨rfl, rfl⟩)
      | (obtain ⟨_, _, _, _, _, rfl, _⟩ := h; exact ⟨rfl, rfl⟩)
      | (obtain ⟨_, _, _, _, _, _, rfl, _⟩ := h; exact ⟨rfl, rfl⟩)
      | (obtain ⟨_, _, _, _, _, _, _, rfl, _⟩ := h; exact ⟨rfl, rfl⟩)
      | (obtain ⟨_, _, _, _, _, _, _, _, rfl, _⟩ := h; exact ⟨rfl, rfl⟩)
      | (obtain ⟨_, _, _, _, _, _, _, _, _, rfl, _⟩ := h; exact ⟨rfl, rfl⟩)
      | (obtain ⟨_, _, _, _, _, _, _, _, _, _, rfl, _⟩ := h; exact ⟨rfl, rfl⟩)
      | (obtain ⟨_, _, _, _, _, _, _, _, _, _, _, rfl, _⟩ := h; exact ⟨rfl, rfl⟩)
  · obtain ⟨d, rfl, ⟨h0, h1⟩, q⟩ := h
    have p18 : (10 : Int) ^ (18 : Int).toNat = 1000000000000000000 := by decide +kernel
    walk_at "ax"
    · exact q (-1 - d / 4) (by unfold bitOk; omega)
    · exact q ((10 : Int) ^ (18 : Int).toNat + d) (by rw [p18]; unfold bitOk; omega)
    · obtain ⟨t, ht⟩ := Int.eq_ofNat_of_zero_le (show 0 ≤ d / 4 by omega)
      rw [ht]
      refine ⟨⟨by decide, by decide, Nat.lt_of_lt_of_le (m := 1000000) (by rw [Int.natAbs_natCast]; omega) (by decide)⟩, ?_⟩
      have hp : ((t : Int) ^ (3 : Int).toNat) = ((t ^ 3 : Nat) : Int) := by rw [Int.natCast_pow]; rfl
      walk_at "ax"
      exact q (2 + (t : Int) ^ (3 : Int).toNat) (by rw [hp]; unfold bitOk; omega)
    · exact q (2 + d / 4 % 9) (by unfold bitOk; omega)
/-! ### _law_wrong_end -/
abbrev s__law_wrong_end : Stmt := topS 22
theorem sc__law_wrong_end : FnScope ["draw", "ends", "end", "at", "signs"] ["draw"] (defScope s__law_wrong_end) := ⟨rfl, rfl, rfl, by decide +kernel, rfl, by decide +kernel, by decide +kernel⟩
def endBad : P → Bool
  | .str x => decide (x ≠ Str.ofString "first" ∧ x ≠ Str.ofString "second")
  | _ => false
theorem end_bad {x : Str} (h : endBad (.str x) = true) : ¬ EndS x := fun he => by
  have := of_decide_eq_true (show decide (x ≠ Str.ofString "first" ∧ x ≠ Str.ofString "second") = true from h)
  rcases he with he | he
  · exact this.1 he
  · exact this.2 he
theorem end_cps {e : Str} (h : EndS e) : ∃ l : List Nat, e = mkS l ∧ l.length ≤ 10 ∧ ∀ c ∈ l, 97 ≤ c ∧ c ≤ 122 := by
  rcases h with rfl | rfl
  · exact ⟨[102, 105, 114, 115, 116], by decide +kernel, by decide, by decide⟩
  · exact ⟨[115, 101, 99, 111, 110, 100], by decide +kernel, by decide, by decide⟩
theorem not_end {l : List Nat} {c : Nat} (hc : c ∈ l) (h : c < 97 ∨ 122 < c) : ¬ EndS (mkS l) := fun he => by
  obtain ⟨l2, e, _, h2⟩ := end_cps he
  rw [mkS_inj e] at hc
  have := h2 c hc
  omega
theorem low_of {z : Str} {c : Nat} (hc : c ∈ z.cps.toList) (h : (z.cps.toList.all fun c => decide (c < 97 ∨ 122 < c)) = true) : c < 97 ∨ 122 < c := of_decide_eq_true (List.all_eq_true.mp h c hc)
def fs__law_wrong_end (cExchange cHouseError cBadBit cBadEnd cBadFate cENDS cARRIVING : Addr) : FSp := fun ds Q => ∃ d : Int, ds = [.sh (.int d)] ∧ (0 ≤ d ∧ d < 1000000) ∧ ∀ e : Str, ¬ EndS e → Q (.sh (.str e)) ds
theorem ok__law_wrong_end {Pg : Program} {w : World} {K : PySem.W.Frag} {mg : Str → Option Value} {base : Heap} {a : Addr} {fd : FuncData} (F : L2.Fun K "_law_wrong_end" "_law_wrong_end" s__law_wrong_end a fd)
    (m_int : mg "int" = none)
    (m_len : mg "len" = none)
    {cExchange cHouseError cBadBit cBadEnd cBadFate cENDS cARRIVING : Addr} (T : Txt K mg cExchange cHouseError cBadBit cBadEnd cBadFate cENDS cARRIVING) :
    FnOk Pg w K mg base CX0 1 a fd ["draw"] (spD K (fs__law_wrong_end cExchange cHouseError cBadBit cBadEnd cBadFate cENDS cARRIVING)) := by
  have n_Exchange_first_bit : ClsA K cExchange "first_bit" := ⟨T.cl_Exchange, T.n_Exchange_first_bit⟩
  have n_Exchange_second_bit : ClsA K cExchange "second_bit" := ⟨T.cl_Exchange, T.n_Exchange_second_bit⟩
  have n_Exchange_fates : ClsA K cExchange "fates" := ⟨T.cl_Exchange, T.n_Exchange_fates⟩
  have is_Exchange := T.is_Exchange
  refine Fun.okD [] F sc__law_wrong_end (fun ds QD h => ?_) (fun cdv A outer s H E hr => ⟨_, _, (dss_cons (ds_put (do_lst (da_cons de_str (da_cons de_str (da_cons de_str (da_cons de_str (da_cons de_str (da_cons de_str (da_cons de_str (da_cons de_str (da_cons de_str (da_cons de_str (da_cons de_str (da_cons de_str (da_cons de_str da_nil)))))))))))))) (pg_name (i := 1) sc__law_wrong_end.nd rfl (by first | exact .inl rfl | exact .inr rfl)))
    (dss_mid (ds_app (fun h => pe_bm PySem.F.plainAttrs_list PySem.F.slot_list_append PySem.F.type_list_append mt_append (pv 1) h) de_str)
    (dss_cons (ds_if (dt_cmp op_eq os_eq (de_op op_mod os_mod (de_cb (fun h => pe_callTy call_int1 (by rfl) m_int (by decide +kernel) h) cs_int (da_cons (de_op op_fdivW os_div (de_v 0 (pv 0)) de_int) da_nil)) de_int) de_int (nomark _))
    (dss_one (ds_ret (de_itm 1 (fun h => pe_ix ix_list (pv 1) h (fun _ _ => rfl)) (de_op op_mod os_mod (de_cb (fun h => pe_callTy call_int1 (by rfl) m_int (by decide +kernel) h) cs_int (da_cons (de_v 0 (pv 0)) da_nil)) de_int))))
    dss_nil)
    (dss_mid (ds_asg (de_ix ix_seq os_ix (de_o (do_lst (da_cons de_str (da_cons de_str da_nil)))) (de_op op_mod os_mod (de_cb (fun h => pe_callTy call_int1 (by rfl) m_int (by decide +kernel) h) cs_int (da_cons (de_v 0 (pv 0)) da_nil)) de_int)) (dg_name (pg_name (i := 2) sc__law_wrong_end.nd rfl (by first | exact .inl rfl | exact .inr rfl))))
    (dss_cons (ds_asg (de_op op_mod os_mod (de_cb (fun h => pe_callTy call_int1 (by rfl) m_int (by decide +kernel) h) cs_int (da_cons (de_op op_fdivW os_div (de_v 0 (pv 0)) de_int) da_nil)) (de_op op_add os_add (de_cb (fun h => pe_callB call_len (by rfl) m_len PySem.boot_len h) cs_len (da_cons (de_v 2 (pv 2)) da_nil)) de_int)) (dg_name (pg_name (i := 3) sc__law_wrong_end.nd rfl (by first | exact .inl rfl | exact .inr rfl))))
    (dss_cons (ds_asg de_str (dg_name (pg_name (i := 4) sc__law_wrong_end.nd rfl (by first | exact .inl rfl | exact .inr rfl))))
    (dss_one (ds_ret (de_op op_add_str os_strcat (de_op op_add_str os_strcat (de_slT (de_v 2 (pv 2)) dpo_none (dpo_some (de_v 3 (pv 3)))) (de_ix ix_seq os_ix (de_v 4 (pv 4)) (de_op op_mod os_mod (de_cb (fun h => pe_callTy call_int1 (by rfl) m_int (by decide +kernel) h) cs_int (da_cons (de_op op_fdivW os_div (de_v 0 (pv 0)) de_int) da_nil)) (de_cb (fun h => pe_callB call_len (by rfl) m_len PySem.boot_len h) cs_len (da_cons (de_v 4 (pv 4)) da_nil))))) (de_slT (de_v 2 (pv 2)) (dpo_some (de_op op_add os_add (de_v 3 (pv 3)) (de_op op_mod os_mod (de_cb (fun h => pe_callTy call_int1 (by rfl) m_int (by decide +kernel) h) cs_int (da_cons (de_op op_fdivW os_div (de_v 0 (pv 0)) de_int) da_nil)) de_int))) dpo_none)))))))))), fun ds QD h => ?_⟩)
  · first
      | (obtain ⟨rfl, _⟩ := h; exact ⟨rfl, rfl⟩)
      | (obtain ⟨_, rfl, _⟩ := h; exact ⟨rfl, rfl⟩)
      | (obtain ⟨_, _, rfl, _⟩ := h; exact ⟨rfl, rfl⟩)
      | (obtain ⟨_, _, _, rfl, _⟩ := h; exact ⟨rfl, rfl⟩)
      | (obtain ⟨_, _, _, _, rfl, _⟩ := h; exact ⟨rfl, rfl⟩)
      | (obtain ⟨_, _, _, _, _, rfl, _⟩ := h; exact ⟨rfl, rfl⟩)
      | (obtain ⟨_, _, _, _, _, _, rfl, _⟩ := h; exact ⟨rfl, rfl⟩)
      | (obtain ⟨_, _, _, _, _, _, _, rfl, _⟩ := h; exact ⟨rfl, rfl⟩)
      | (obtain ⟨_, _, _, _, _, _, _, _, rfl, _⟩ := h; exact ⟨rfl, rfl⟩)
      | (obtain ⟨_, _, _, _, _, _, _, _, _, rfl, _⟩ := h; exact ⟨rfl, rfl⟩)
      | (obtain ⟨_, _, _, _, _, _, _, _, _, _, rfl, _⟩ := h; exact ⟨rfl, rfl⟩)
      | (obtain ⟨_, _, _, _, _, _, _, _, _, _, _, rfl, _⟩ := h; exact ⟨rfl, rfl⟩)
  · obtain ⟨d, rfl, ⟨h0, h1⟩, q⟩ := h
    walk_at "ax"
    refine ⟨fun e => ∃ L : List P, e = [some (.sh (.int d)), some (.ol L), none, none, none] ∧ L.length = 14 ∧ L.all endBad = true, ?_, ?_⟩
    · walk_at "ax"
      exact ⟨_, rfl, rfl, by decide +kernel⟩
    rintro _ ⟨L, rfl, hL1, hL2⟩
    walk_at "ax"
    · refine at_lit (by rw [hL1]; rfl) (by omega) _ fun p hp => ?_
      have hm := List.all_eq_true.mp hL2 p hp
      cases p with
      | str m =>
        walk_at "ax"
        exact q m (end_bad hm)
      | _ => cases hm
    refine ⟨fun e => ∃ l : List Nat, e = [some (.sh (.int d)), some (.ol L), some (.sh (.str (mkS l))), none, none] ∧ l.length ≤ 10, ?_, ?_⟩
    · walk_at "ax"
      refine at_lit rfl (by decide) _ fun p hp => ?_
      simp only [List.mem_cons, List.not_mem_nil, or_false] at hp
      have hp : ∃ e, p = .str e ∧ EndS e := by
        rcases hp with rfl | rfl
        · exact ⟨_, rfl, .inl rfl⟩
        · exact ⟨_, rfl, .inr rfl⟩
      obtain ⟨e, rfl, he⟩ := hp
      obtain ⟨l, rfl, hl, _⟩ := end_cps he
      walk_at "ax"
      exact ⟨l, rfl, hl⟩
    rintro _ ⟨l, rfl, hl⟩
    have el := mkS_len l
    have hz := sizeLine_eq
    walk_at "ax"
    refine sign_ix (by decide +kernel) _ fun c hc => ?_
    have hlow := low_of hc (by decide +kernel)
    obtain ⟨t, h1, h2⟩ := md (d / 28) (show (0 : Int) < (l.length : Int) + 1 by omega)
    obtain ⟨u, g1, g2⟩ := md (d / 2) (show (0 : Int) < 2 by decide)
    rw [el, h1, cut_to, show (⟨#[c]⟩ : Str) = mkS [c] from rfl]
    have e1 := mkS_len (l.take t)
    have e2 := mkS_len [c]
    have e3 : (l.take t).length ≤ 10 := by rw [List.length_take]; omega
    have e4 : [c].length = 1 := rfl
    walk_at "ax"
    rw [app_mk, h1, g1, show (t : Int) + (u : Int) = ((t + u : Nat) : Int) by omega, cut_from]
    have e5 := mkS_len (l.take t ++ [c])
    have e6 := mkS_len (l.drop (t + u))
    rw [List.length_append] at e5
    rw [List.length_drop] at e6
    walk_at "ax"
    rw [app_mk]
    exact q _ (not_end (c := c) (List.mem_append_left _ (List.mem_append_right _ List.mem_cons_self)) hlow)
/-! ### _law_view -/
abbrev s__law_view : Stmt := topS 23
theorem sc__law_view : FnScope ["exchange", "end", "own", "other", "heard", "last", "at"] ["exchange", "end"] (defScope s__law_view) := ⟨rfl, rfl, rfl, by decide +kernel, rfl, by decide +kernel, by decide +kernel⟩
def lst (h l : List Nat) (i : Nat) : Option Nat := ((List.range i).filter fun j => decide (l.getD j 0 ∈ h)).getLast?
def lastI : Option Nat → Int
  | none => -1
  | some k => (k : Int)
theorem lst_yes {h l : List Nat} {i : Nat} (hc : l.getD i 0 ∈ h) : lst h l (i + 1) = some i := by
  unfold lst
  have e : [i].filter (fun j => decide (l.getD j 0 ∈ h)) = [i] := by
    show (match decide (l.getD i 0 ∈ h) with | true => [i] | false => []) = _
    rw [decide_eq_true hc]
  rw [List.range_succ, List.filter_append, e, List.getLast?_append]
  rfl
theorem lst_no {h l : List Nat} {i : Nat} (hc : l.getD i 0 ∉ h) : lst h l (i + 1) = lst h l i := by
  unfold lst
  have e : [i].filter (fun j => decide (l.getD j 0 ∈ h)) = [] := by
    show (match decide (l.getD i 0 ∈ h) with | true => [i] | false => []) = _
    rw [decide_eq_false hc]
  rw [List.range_succ, List.filter_append, e, List.append_nil]
def fs__law_view (cExchange cHouseError cBadBit cBadEnd cBadFate cENDS cARRIVING : Addr) : FSp := fun ds Q => ∃ (a b : Int) (l : List Nat) (e : Str), ds = [.sh (exT a b l), .sh (.str e)] ∧ (EndS e ∧ l.length ≤ 1000) ∧ Q (.sh (viewP e a b l)) ds
theorem ok__law_view {Pg : Program} {w : World} {K : PySem.W.Frag} {mg : Str → Option Value} {base : Heap} {a : Addr} {fd : FuncData} (F : L2.Fun K "_law_view" "_law_view" s__law_view a fd)
    (m_range : mg "range" = none)
    (m_len : mg "len" = none)
    {cExchange cHouseError cBadBit cBadEnd cBadFate cENDS cARRIVING : Addr} (T : Txt K mg cExchange cHouseError cBadBit cBadEnd cBadFate cENDS cARRIVING) :
    FnOk Pg w K mg base CX0 1 a fd ["exchange", "end"] (spD K (fs__law_view cExchange cHouseError cBadBit cBadEnd cBadFate cENDS cARRIVING)) := by
  have n_Exchange_first_bit : ClsA K cExchange "first_bit" := ⟨T.cl_Exchange, T.n_Exchange_first_bit⟩
  have n_Exchange_second_bit : ClsA K cExchange "second_bit" := ⟨T.cl_Exchange, T.n_Exchange_second_bit⟩
  have n_Exchange_fates : ClsA K cExchange "fates" := ⟨T.cl_Exchange, T.n_Exchange_fates⟩
  have is_Exchange := T.is_Exchange
  refine Fun.okD [] F sc__law_view (fun ds QD h => ?_) (fun cdv A outer s H E hr => ⟨_, _, (dss_cons (ds_asg (de_ix ix_seq os_ix (de_v 0 (pv 0)) de_int) (dg_name (pg_name (i := 2) sc__law_view.nd rfl (by first | exact .inl rfl | exact .inr rfl))))
    (dss_cons (ds_asg (de_ix ix_seq os_ix (de_v 0 (pv 0)) de_int) (dg_name (pg_name (i := 3) sc__law_view.nd rfl (by first | exact .inl rfl | exact .inr rfl))))
    (dss_cons (ds_asg de_str (dg_name (pg_name (i := 4) sc__law_view.nd rfl (by first | exact .inl rfl | exact .inr rfl))))
    (dss_mid (ds_if (dt_cmp op_eq os_eq (de_v 1 (pv 1)) de_str (nomark _))
    (dss_cons (ds_asg (de_ix ix_seq os_ix (de_v 0 (pv 0)) de_int) (dg_name (pg_name (i := 2) sc__law_view.nd rfl (by first | exact .inl rfl | exact .inr rfl))))
    (dss_cons (ds_asg (de_ix ix_seq os_ix (de_v 0 (pv 0)) de_int) (dg_name (pg_name (i := 3) sc__law_view.nd rfl (by first | exact .inl rfl | exact .inr rfl))))
    (dss_one (ds_asg de_str (dg_name (pg_name (i := 4) sc__law_view.nd rfl (by first | exact .inl rfl | exact .inr rfl)))))))
    dss_nil)
    (dss_cons (ds_asg (de_un un_neg us_neg de_int) (dg_name (pg_name (i := 5) sc__law_view.nd rfl (by first | exact .inl rfl | exact .inr rfl))))
    (dss_cons (ds_for PassesOwn.never rfl (di_rng1 (fun h => pi_range1 (by rfl) m_range h) (da_cons (de_cb (fun h => pe_callB call_len (by rfl) m_len PySem.boot_len h) cs_len (da_cons (de_ix ix_seq os_ix (de_v 0 (pv 0)) de_int) da_nil)) da_nil)) (dg_name (pg_name (i := 6) sc__law_view.nd rfl (by first | exact .inl rfl | exact .inr rfl)))
    (dss_one (ds_if (dt_cmp op_in_sign os_insign (de_ix ix_seq os_ix (de_ix ix_seq os_ix (de_v 0 (pv 0)) de_int) (de_v 6 (pv 6))) (de_v 4 (pv 4)) (by rfl))
    (dss_one (ds_asg (de_v 6 (pv 6)) (dg_name (pg_name (i := 5) sc__law_view.nd rfl (by first | exact .inl rfl | exact .inr rfl)))))
    dss_nil)))
    (dss_cons (ds_if (dt_cmp op_lt os_lt (de_v 5 (pv 5)) de_int (nomark _))
    (dss_one (ds_ret (de_tup (da_cons (de_v 2 (pv 2)) (da_cons de_non (da_cons de_str (da_cons (de_cb (fun h => pe_callB call_len (by rfl) m_len PySem.boot_len h) cs_len (da_cons (de_ix ix_seq os_ix (de_v 0 (pv 0)) de_int) da_nil)) da_nil)))))))
    dss_nil)
    (dss_one (ds_ret (de_tup (da_cons (de_v 2 (pv 2)) (da_cons (de_v 3 (pv 3)) (da_cons (de_slT (de_ix ix_seq os_ix (de_v 0 (pv 0)) de_int) dpo_none (dpo_some (de_v 5 (pv 5)))) (da_cons (de_op op_sub os_sub (de_op op_sub os_sub (de_cb (fun h => pe_callB call_len (by rfl) m_len PySem.boot_len h) cs_len (da_cons (de_ix ix_seq os_ix (de_v 0 (pv 0)) de_int) da_nil)) de_int) (de_v 5 (pv 5))) da_nil)))))))))))))), fun ds QD h => ?_⟩)
  · first
      | (obtain ⟨rfl, _⟩ := h; exact ⟨rfl, rfl⟩)
      | (obtain ⟨_, rfl, _⟩ := h; exact ⟨rfl, rfl⟩)
      | (obtain ⟨_, _, rfl, _⟩ := h; exact ⟨rfl, rfl⟩)
      | (obtain ⟨_, _, _, rfl, _⟩ := h; exact ⟨rfl, rfl⟩)
      | (obtain ⟨_, _, _, _, rfl, _⟩ := h; exact ⟨rfl, rfl⟩)
      | (obtain ⟨_, _, _, _, _, rfl, _⟩ := h; exact ⟨rfl, rfl⟩)
      | (obtain ⟨_, _, _, _, _, _, rfl, _⟩ := h; exact ⟨rfl, rfl⟩)
      | (obtain ⟨_, _, _, _, _, _, _, rfl, _⟩ := h; exact ⟨rfl, rfl⟩)
      | (obtain ⟨_, _, _, _, _, _, _, _, rfl, _⟩ := h; exact ⟨rfl, rfl⟩)
      | (obtain ⟨_, _, _, _, _, _, _, _, _, rfl, _⟩ := h; exact ⟨rfl, rfl⟩)
      | (obtain ⟨_, _, _, _, _, _, _, _, _, _, rfl, _⟩ := h; exact ⟨rfl, rfl⟩)
      | (obtain ⟨_, _, _, _, _, _, _, _, _, _, _, rfl, _⟩ := h; exact ⟨rfl, rfl⟩)
  · obtain ⟨a, b, l, e, rfl, ⟨he, hl⟩, q⟩ := h
    have el := mkS_len l
    have hz := sizeLine_eq
    unfold exT
    walk_at "ax"
    refine ⟨fun e' => ∃ y : Str, e' = [some (.sh (exT a b l)), some (.sh (.str e)), some (.sh (.int (ownB e a b))), some (.sh (.int (othB e a b))), some (.sh (.str y)), none, none] ∧ y.cps.toList = heard e, ?_, ?_⟩
    · walk_at "ax"
      · rename_i hc
        refine ⟨Str.ofString "bs", by unfold ownB othB; rw [if_pos hc, if_pos hc]; rfl, ?_⟩
        subst hc
        decide +kernel
      · rename_i hc
        refine ⟨Str.ofString "bf", by unfold ownB othB; rw [if_neg hc, if_neg hc]; rfl, ?_⟩
        rcases he with rfl | he
        · decide +kernel
        · exact absurd he hc
    rintro _ ⟨y, rfl, hy⟩
    unfold exT
    walk_at "ax"
    rw [el]
    refine ⟨fun i e' => ∃ u6 : Option D, e' = [some (.sh (exT a b l)), some (.sh (.str e)), some (.sh (.int (ownB e a b))), some (.sh (.int (othB e a b))), some (.sh (.str y)), some (.sh (.int (lastI (lst (heard e) l i)))), u6], ⟨none, rfl⟩, fun i x e' hp hI => ?_, fun e' hI => ?_⟩
    · obtain ⟨u6, rfl⟩ := hI
      obtain ⟨hi, rfl⟩ := rngP_get hp
      rw [Int.toNat_natCast] at hi
      unfold exT
      walk_at "ax"
      refine ⟨l.getD i 0, by rw [Int.zero_add]; exact atI_nat (get_of hi), ?_⟩
      walk_at "ax"
      refine ⟨_, rfl, ?_⟩
      rw [hy]
      by_cases hcm : l.getD i 0 ∈ heard e
      · rw [decide_eq_true hcm]
        walk_at "ax"
        exact ⟨_, by rw [lst_yes hcm, show (0 + (i : Int)) = (i : Int) from Int.zero_add _]; rfl⟩
      · rw [decide_eq_false hcm]
        walk_at "ax"
        exact ⟨_, by rw [lst_no hcm]; rfl⟩
    obtain ⟨u6, rfl⟩ := hI
    rw [rngP_len, Int.toNat_natCast]
    have hk : ∀ k, lst (heard e) l l.length = some k → k < l.length := fun k hk => idxs_lt (List.mem_of_getLast? hk)
    unfold viewP at q
    rw [show (idxs (heard e) l).getLast? = lst (heard e) l l.length from rfl] at q
    generalize lst (heard e) l l.length = A at q hk ⊢
    cases A with
    | none =>
      unfold exT lastI
      walk_at "ax"
      rw [emp_eq, el]
      exact q
    | some k =>
      have hk := hk k rfl
      unfold exT lastI
      walk_at "ax"
      rw [cut_to]
      walk_at "ax"
      rw [el]
      change QD (.sh (.tup [.int (ownB e a b), .int (othB e a b), .str (mkS (l.take k)), .int ((l.length : Int) - (k : Int) - 1)])) _ at q
      rw [show (l.length : Int) - (k : Int) - 1 = (l.length : Int) - 1 - (k : Int) by omega] at q
      exact q
/-! ### _law_is_number -/
abbrev s__law_is_number : Stmt := topS 24
theorem sc__law_is_number : FnScope ["told", "due"] ["told", "due"] (defScope s__law_is_number) := ⟨rfl, rfl, rfl, by decide +kernel, rfl, by decide +kernel, by decide +kernel⟩
def fs__law_is_number (cExchange cHouseError cBadBit cBadEnd cBadFate cENDS cARRIVING : Addr) : FSp := fun ds Q => ∃ (i : Int), ds = [.sh (.int i), .sh (.int i)] ∧ Q (.sh (.bl true)) ds
theorem ok__law_is_number {Pg : Program} {w : World} {K : PySem.W.Frag} {mg : Str → Option Value} {base : Heap} {a : Addr} {fd : FuncData} (F : L2.Fun K "_law_is_number" "_law_is_number" s__law_is_number a fd)
    (m_isinstance : mg "isinstance" = none)
    (m_int : mg "int" = none)
    (m_bool : mg "bool" = none)
    {cExchange cHouseError cBadBit cBadEnd cBadFate cENDS cARRIVING : Addr} (T : Txt K mg cExchange cHouseError cBadBit cBadEnd cBadFate cENDS cARRIVING) :
    FnOk Pg w K mg base CX0 1 a fd ["told", "due"] (spD K (fs__law_is_number cExchange cHouseError cBadBit cBadEnd cBadFate cENDS cARRIVING)) := by
  have n_Exchange_first_bit : ClsA K cExchange "first_bit" := ⟨T.cl_Exchange, T.n_Exchange_first_bit⟩
  have n_Exchange_second_bit : ClsA K cExchange "second_bit" := ⟨T.cl_Exchange, T.n_Exchange_second_bit⟩
  have n_Exchange_fates : ClsA K cExchange "fates" := ⟨T.cl_Exchange, T.n_Exchange_fates⟩
  have is_Exchange := T.is_Exchange
  refine Fun.okD [] F sc__law_is_number (fun ds QD h => ?_) (fun cdv A outer s H E hr => ⟨_, _, (dss_one (ds_ret (de_and (de_cb (fun h => pe_callB call_isi (by rfl) m_isinstance (by decide +kernel) h) cs_isi (da_cons (de_v 0 (pv 0)) (da_cons (de_glob (p := .ty "int") (pe_bltn (v := .ty "int") (u := .type "int") (by rfl) m_int (by decide +kernel) rfl) (fun _ => rfl)) da_nil))) (de_and (de_not (de_cb (fun h => pe_callB call_isi (by rfl) m_isinstance (by decide +kernel) h) cs_isi (da_cons (de_v 0 (pv 0)) (da_cons (de_glob (p := .ty "bool") (pe_bltn (v := .ty "bool") (u := .type "bool") (by rfl) m_bool (by decide +kernel) rfl) (fun _ => rfl)) da_nil)))) (de_one (de_cmp op_eq os_eq (de_v 0 (pv 0)) (de_v 1 (pv 1)) (nomark _))))))), fun ds QD h => ?_⟩)
  · first
      | (obtain ⟨rfl, _⟩ := h; exact ⟨rfl, rfl⟩)
      | (obtain ⟨_, rfl, _⟩ := h; exact ⟨rfl, rfl⟩)
      | (obtain ⟨_, _, rfl, _⟩ := h; exact ⟨rfl, rfl⟩)
      | (obtain ⟨_, _, _, rfl, _⟩ := h; exact ⟨rfl, rfl⟩)
      | (obtain ⟨_, _, _, _, rfl, _⟩ := h; exact ⟨rfl, rfl⟩)
      | (obtain ⟨_, _, _, _, _, rfl, _⟩ := h; exact ⟨rfl, rfl⟩)
      | (obtain ⟨_, _, _, _, _, _, rfl, _⟩ := h; exact ⟨rfl, rfl⟩)
      | (obtain ⟨_, _, _, _, _, _, _, rfl, _⟩ := h; exact ⟨rfl, rfl⟩)
      | (obtain ⟨_, _, _, _, _, _, _, _, rfl, _⟩ := h; exact ⟨rfl, rfl⟩)
      | (obtain ⟨_, _, _, _, _, _, _, _, _, rfl, _⟩ := h; exact ⟨rfl, rfl⟩)
      | (obtain ⟨_, _, _, _, _, _, _, _, _, _, rfl, _⟩ := h; exact ⟨rfl, rfl⟩)
      | (obtain ⟨_, _, _, _, _, _, _, _, _, _, _, rfl, _⟩ := h; exact ⟨rfl, rfl⟩)
  · obtain ⟨i, rfl, q⟩ := h
    walk_at "ax"
    refine ⟨_, rfl, ?_⟩
    walk_at "ax"
    refine ⟨_, rfl, ?_⟩
    walk_at "ax"
    rw [decide_eq_true rfl]
    exact q
/-! ### _law_due_refusal -/
abbrev s__law_due_refusal : Stmt := topS 28
theorem sc__law_due_refusal : FnScope ["first_bit", "second_bit", "fates", "at"] ["first_bit", "second_bit", "fates"] (defScope s__law_due_refusal) := ⟨rfl, rfl, rfl, by decide +kernel, rfl, by decide +kernel, by decide +kernel⟩
/-- what is wrong, and where -/
inductive Ref
  | bit (v : Int)
  | fate (i : Nat)
  | ok
def RefOk (a b : Int) (l : List Nat) : Ref → Prop
  | .bit v => (¬ bitOk a ∧ v = a) ∨ (bitOk a ∧ ¬ bitOk b ∧ v = b)
  | .fate i => (bitOk a ∧ bitOk b) ∧ ∃ c, l[i]? = some c ∧ c ∉ fateL ∧ ∀ c ∈ l.take i, c ∈ fateL
  | .ok => (bitOk a ∧ bitOk b) ∧ FateOk l
def refD : Ref → P
  | .bit v => .tup [.str "bit", .int v]
  | .fate i => .tup [.str "fate", .int (i : Int)]
  | .ok => .tup [.str "none", .int 0]
def refT : Ref → P
  | .bit v => .tup [.str "bit", .int v, .bl true]
  | .fate i => .tup [.str "fate", .int (i : Int), .bl true]
  | .ok => .tup [.str "none", .int 0, .bl true]
theorem ref_ex (a b : Int) (l : List Nat) : ∃ r, RefOk a b l r := by
  by_cases ha : bitOk a
  · by_cases hb : bitOk b
    · by_cases hl : FateOk l
      · exact ⟨.ok, ⟨ha, hb⟩, hl⟩
      · have : ∃ i : Nat, ∃ c : Nat, l[i]? = some c ∧ c ∉ fateL := by
          refine Classical.byContradiction fun h => hl fun c hc => ?_
          obtain ⟨i, hi, he⟩ := List.getElem_of_mem hc
          exact Classical.byContradiction fun hn => h ⟨i, c, by rw [List.getElem?_eq_getElem hi, he], hn⟩
        obtain ⟨i, ⟨c, h1, h2⟩, h3⟩ := least this
        refine ⟨.fate i, ⟨ha, hb⟩, c, h1, h2, fun d hd => ?_⟩
        obtain ⟨j, hj, he⟩ := List.getElem_of_mem hd
        rw [List.length_take] at hj
        rw [List.getElem_take] at he
        refine Classical.byContradiction fun hn => ?_
        have := h3 j ⟨d, by rw [List.getElem?_eq_getElem (by omega), he], hn⟩
        omega
    · exact ⟨.bit b, .inr ⟨ha, hb, rfl⟩⟩
  · exact ⟨.bit a, .inl ⟨ha, rfl⟩⟩
theorem ref_a {a b : Int} {l : List Nat} {r : Ref} (h : RefOk a b l r) (ha : ¬ bitOk a) : r = .bit a := by
  cases r with
  | bit v => rcases h with ⟨_, rfl⟩ | ⟨h1, _⟩
             · rfl
             · exact absurd h1 ha
  | fate i => exact absurd h.1.1 ha
  | ok => exact absurd h.1.1 ha
theorem ref_b {a b : Int} {l : List Nat} {r : Ref} (h : RefOk a b l r) (ha : bitOk a) (hb : ¬ bitOk b) : r = .bit b := by
  cases r with
  | bit v => rcases h with ⟨h1, _⟩ | ⟨_, _, rfl⟩
             · exact absurd ha h1
             · rfl
  | fate i => exact absurd h.1.2 hb
  | ok => exact absurd h.1.2 hb
theorem ref_f {a b : Int} {l : List Nat} {r : Ref} {i c : Nat} (h : RefOk a b l r) (ha : bitOk a) (hb : bitOk b) (h1 : l[i]? = some c) (h2 : c ∉ fateL) (h3 : ∀ c ∈ l.take i, c ∈ fateL) : r = .fate i := by
  cases r with
  | bit v => rcases h with ⟨g1, _⟩ | ⟨_, g1, _⟩
             · exact absurd ha g1
             · exact absurd hb g1
  | fate j =>
    obtain ⟨_, d, g1, g2, g3⟩ := h
    rcases Nat.lt_trichotomy i j with q | q | q
    · exact absurd (g3 c (List.mem_of_getElem? (by rw [List.getElem?_take_of_lt q]; exact h1))) h2
    · rw [q]
    · exact absurd (h3 d (List.mem_of_getElem? (by rw [List.getElem?_take_of_lt q]; exact g1))) g2
  | ok => exact absurd (h.2 c (List.mem_of_getElem? h1)) h2
theorem ref_k {a b : Int} {l : List Nat} {r : Ref} (h : RefOk a b l r) (ha : bitOk a) (hb : bitOk b) (hl : FateOk l) : r = .ok := by
  cases r with
  | bit v => rcases h with ⟨g1, _⟩ | ⟨_, g1, _⟩
             · exact absurd ha g1
             · exact absurd hb g1
  | fate j =>
    obtain ⟨_, d, g1, g2, _⟩ := h
    exact absurd (hl d (List.mem_of_getElem? g1)) g2
  | ok => rfl
def fs__law_due_refusal (cExchange cHouseError cBadBit cBadEnd cBadFate cENDS cARRIVING : Addr) : FSp := fun ds Q => ∃ (a b : Int) (l : List Nat) (r : Ref), ds = [.sh (.int a), .sh (.int b), .sh (.str (mkS l))] ∧ (l.length ≤ 1000 ∧ RefOk a b l r) ∧ Q (.sh (refD r)) ds
theorem ok__law_due_refusal {Pg : Program} {w : World} {K : PySem.W.Frag} {mg : Str → Option Value} {base : Heap} {a : Addr} {fd : FuncData} (F : L2.Fun K "_law_due_refusal" "_law_due_refusal" s__law_due_refusal a fd)
    (m_range : mg "range" = none)
    (m_len : mg "len" = none)
    {cExchange cHouseError cBadBit cBadEnd cBadFate cENDS cARRIVING : Addr} (T : Txt K mg cExchange cHouseError cBadBit cBadEnd cBadFate cENDS cARRIVING) :
    FnOk Pg w K mg base CX0 1 a fd ["first_bit", "second_bit", "fates"] (spD K (fs__law_due_refusal cExchange cHouseError cBadBit cBadEnd cBadFate cENDS cARRIVING)) := by
  have n_Exchange_first_bit : ClsA K cExchange "first_bit" := ⟨T.cl_Exchange, T.n_Exchange_first_bit⟩
  have n_Exchange_second_bit : ClsA K cExchange "second_bit" := ⟨T.cl_Exchange, T.n_Exchange_second_bit⟩
  have n_Exchange_fates : ClsA K cExchange "fates" := ⟨T.cl_Exchange, T.n_Exchange_fates⟩
  have is_Exchange := T.is_Exchange
  refine Fun.okD [] F sc__law_due_refusal (fun ds QD h => ?_) (fun cdv A outer s H E hr => ⟨_, _, (dss_mid (ds_if (DW.pt (dw_and (dt_cmp op_ne os_ne (de_v 0 (pv 0)) de_int (nomark _)) (dw_and1 (dt_cmp op_ne os_ne (de_v 0 (pv 0)) de_int (nomark _)))))
    (dss_one (ds_ret (de_tup (da_cons de_str (da_cons (de_v 0 (pv 0)) da_nil)))))
    dss_nil)
    (dss_mid (ds_if (DW.pt (dw_and (dt_cmp op_ne os_ne (de_v 1 (pv 1)) de_int (nomark _)) (dw_and1 (dt_cmp op_ne os_ne (de_v 1 (pv 1)) de_int (nomark _)))))
    (dss_one (ds_ret (de_tup (da_cons de_str (da_cons (de_v 1 (pv 1)) da_nil)))))
    dss_nil)
    (dss_cons (ds_for PassesOwn.never rfl (di_rng1 (fun h => pi_range1 (by rfl) m_range h) (da_cons (de_cb (fun h => pe_callB call_len (by rfl) m_len PySem.boot_len h) cs_len (da_cons (de_v 2 (pv 2)) da_nil)) da_nil)) (dg_name (pg_name (i := 3) sc__law_due_refusal.nd rfl (by first | exact .inl rfl | exact .inr rfl)))
    (dss_one (ds_if (dt_cmp op_notIn_sign os_notinsign (de_ix ix_seq os_ix (de_v 2 (pv 2)) (de_v 3 (pv 3))) de_str (by rfl))
    (dss_one (ds_ret (de_tup (da_cons de_str (da_cons (de_v 3 (pv 3)) da_nil)))))
    dss_nil)))
    (dss_one (ds_ret (de_tup (da_cons de_str (da_cons de_int da_nil)))))))), fun ds QD h => ?_⟩)
  · first
      | (obtain ⟨rfl, _⟩ := h; exact ⟨rfl, rfl⟩)
      | (obtain ⟨_, rfl, _⟩ := h; exact ⟨rfl, rfl⟩)
      | (obtain ⟨_, _, rfl, _⟩ := h; exact ⟨rfl, rfl⟩)
      | (obtain ⟨_, _, _, rfl, _⟩ := h; exact ⟨rfl, rfl⟩)
      | (obtain ⟨_, _, _, _, rfl, _⟩ := h; exact ⟨rfl, rfl⟩)
      | (obtain ⟨_, _, _, _, _, rfl, _⟩ := h; exact ⟨rfl, rfl⟩)
      | (obtain ⟨_, _, _, _, _, _, rfl, _⟩ := h; exact ⟨rfl, rfl⟩)
      | (obtain ⟨_, _, _, _, _, _, _, rfl, _⟩ := h; exact ⟨rfl, rfl⟩)
      | (obtain ⟨_, _, _, _, _, _, _, _, rfl, _⟩ := h; exact ⟨rfl, rfl⟩)
      | (obtain ⟨_, _, _, _, _, _, _, _, _, rfl, _⟩ := h; exact ⟨rfl, rfl⟩)
      | (obtain ⟨_, _, _, _, _, _, _, _, _, _, rfl, _⟩ := h; exact ⟨rfl, rfl⟩)
      | (obtain ⟨_, _, _, _, _, _, _, _, _, _, _, rfl, _⟩ := h; exact ⟨rfl, rfl⟩)
  · obtain ⟨a, b, l, r, rfl, ⟨hl, hr⟩, q⟩ := h
    have el := mkS_len l
    have hz := sizeLine_eq
    refine ⟨fun e => e = [some (.sh (.int a)), some (.sh (.int b)), some (.sh (.str (mkS l))), none] ∧ bitOk a, ?_, ?_⟩
    · walk_at "ax"
      · have e := ref_a hr (by unfold bitOk; omega)
        subst e
        exact q
      all_goals first
        | exact ⟨rfl, by unfold bitOk; omega⟩
        | omega
    rintro _ ⟨rfl, ha⟩
    refine ⟨fun e => e = [some (.sh (.int a)), some (.sh (.int b)), some (.sh (.str (mkS l))), none] ∧ bitOk b, ?_, ?_⟩
    · walk_at "ax"
      · have e := ref_b hr ha (by unfold bitOk; omega)
        subst e
        exact q
      all_goals first
        | exact ⟨rfl, by unfold bitOk; omega⟩
        | omega
    rintro _ ⟨rfl, hb⟩
    walk_at "ax"
    rw [el]
    refine ⟨fun i e => ∃ u3 : Option D, e = [some (.sh (.int a)), some (.sh (.int b)), some (.sh (.str (mkS l))), u3] ∧ ∀ c ∈ l.take i, c ∈ fateL, ⟨none, rfl, fun c hc => (by cases hc)⟩, fun i x e hp hI => ?_, fun e hI => ?_⟩
    · obtain ⟨u3, rfl, hg⟩ := hI
      obtain ⟨hi, rfl⟩ := rngP_get hp
      rw [Int.toNat_natCast] at hi
      walk_at "ax"
      refine ⟨l.getD i 0, by rw [Int.zero_add]; exact atI_nat (get_of hi), ?_⟩
      walk_at "ax"
      refine ⟨_, rfl, ?_⟩
      rw [fates_cps]
      by_cases hcm : l.getD i 0 ∈ fateL
      · rw [decide_eq_true hcm]
        walk_at "ax"
        refine ⟨_, rfl, fun c hc => ?_⟩
        rw [List.take_add_one, get_of (d := 0) hi] at hc
        rcases List.mem_append.mp hc with hc | hc
        · exact hg c hc
        · rw [List.mem_singleton.mp hc]; exact hcm
      · rw [decide_eq_false hcm]
        walk_at "ax"
        have e := ref_f hr ha hb (get_of (d := 0) hi) hcm hg
        subst e
        rw [show (0 + (i : Int)) = (i : Int) from Int.zero_add _]
        exact q
    · obtain ⟨u3, rfl, hg⟩ := hI
      rw [rngP_len, Int.toNat_natCast, List.take_length] at hg
      walk_at "ax"
      have e := ref_k hr ha hb hg
      subst e
      exact q
/-! ### _law_exchange -/
abbrev s__law_exchange : Stmt := topS 18
theorem sc__law_exchange : FnScope ["draws", "place", "most", "shape", "bits", "menu", "size", "fates", "k"] ["draws", "place", "most"] (defScope s__law_exchange) := ⟨rfl, rfl, rfl, by decide +kernel, rfl, by decide +kernel, by decide +kernel⟩
theorem bit2 (d : Int) : bitOk (d % 2) := by unfold bitOk; omega
def menuOk : P → Bool
  | .str x => decide (0 < x.length) && (decide (x.length ≤ 100) && x.cps.toList.all fun c => decide (c ∈ fateL))
  | _ => false
theorem menu_is {x : Str} (h : menuOk (.str x) = true) : 0 < x.length ∧ x.length ≤ 100 ∧ ∀ c ∈ x.cps.toList, c ∈ fateL := by
  unfold menuOk at h
  rw [Bool.and_eq_true, Bool.and_eq_true, List.all_eq_true] at h
  exact ⟨of_decide_eq_true h.1, of_decide_eq_true h.2.1, fun c hc => of_decide_eq_true (h.2.2 c hc)⟩
def fs__law_exchange (cExchange cHouseError cBadBit cBadEnd cBadFate cENDS cARRIVING : Addr) : FSp := fun ds Q => ∃ (rs : List Int) (k most : Nat), ds = [.sh (.lst (pI rs)), .ol [.int (k : Int)], .sh (.int (most : Int))] ∧ most ≤ 60 ∧ ∀ (a b : Int) (l : List Nat) (k' : Nat), bitOk a → bitOk b → l.length ≤ 60 → FateOk l → Q (.sh (exT a b l)) [.sh (.lst (pI rs)), .ol [.int (k' : Int)], .sh (.int (most : Int))]
theorem ok__law_exchange {Pg : Program} {w : World} {K : PySem.W.Frag} {mg : Str → Option Value} {base : Heap} {a : Addr} {fd : FuncData} (F : L2.Fun K "_law_exchange" "_law_exchange" s__law_exchange a fd)
    (m_int : mg "int" = none)
    (m_len : mg "len" = none)
    (m_range : mg "range" = none)
    {cExchange cHouseError cBadBit cBadEnd cBadFate cENDS cARRIVING : Addr} (T : Txt K mg cExchange cHouseError cBadBit cBadEnd cBadFate cENDS cARRIVING)
    {a__law_take : Addr} {d__law_take : FuncData} (C__law_take : Callee Pg w K mg base 1 "_law_take" a__law_take d__law_take ["draws", "place"] (fs__law_take cExchange cHouseError cBadBit cBadEnd cBadFate cENDS cARRIVING)) :
    FnOk Pg w K mg base CX0 2 a fd ["draws", "place", "most"] (spD K (fs__law_exchange cExchange cHouseError cBadBit cBadEnd cBadFate cENDS cARRIVING)) := by
  have n_Exchange_first_bit : ClsA K cExchange "first_bit" := ⟨T.cl_Exchange, T.n_Exchange_first_bit⟩
  have n_Exchange_second_bit : ClsA K cExchange "second_bit" := ⟨T.cl_Exchange, T.n_Exchange_second_bit⟩
  have n_Exchange_fates : ClsA K cExchange "fates" := ⟨T.cl_Exchange, T.n_Exchange_fates⟩
  have is_Exchange := T.is_Exchange
  refine Fun.okD [1] F sc__law_exchange (fun ds QD h => ?_) (fun cdv A outer s H E hr => ⟨_, _, (dss_cons (ds_asg (de_o (do_call (m := false) (fun h => pe_call C__law_take.ok hr (by rfl) C__law_take.g C__law_take.kp C__law_take.b .nil pass0 h) (da_cons (de_v 0 (pv 0)) (da_slot (pv 1) da_nil)))) (dg_name (pg_name (i := 3) sc__law_exchange.nd rfl (by first | exact .inl rfl | exact .inr rfl))))
    (dss_cons (ds_asg (de_o (do_call (m := false) (fun h => pe_call C__law_take.ok hr (by rfl) C__law_take.g C__law_take.kp C__law_take.b .nil pass0 h) (da_cons (de_v 0 (pv 0)) (da_slot (pv 1) da_nil)))) (dg_name (pg_name (i := 4) sc__law_exchange.nd rfl (by first | exact .inl rfl | exact .inr rfl))))
    (dss_mid (ds_asg (de_ix ix_seq os_ix (de_o (do_lst (da_cons de_str (da_cons de_str (da_cons de_str (da_cons de_str (da_cons de_str (da_cons de_str (da_cons de_str (da_cons de_str da_nil)))))))))) (de_op op_mod os_mod (de_cb (fun h => pe_callTy call_int1 (by rfl) m_int (by decide +kernel) h) cs_int (da_cons (de_o (do_call (m := false) (fun h => pe_call C__law_take.ok hr (by rfl) C__law_take.g C__law_take.kp C__law_take.b .nil pass0 h) (da_cons (de_v 0 (pv 0)) (da_slot (pv 1) da_nil)))) da_nil)) de_int)) (dg_name (pg_name (i := 5) sc__law_exchange.nd rfl (by first | exact .inl rfl | exact .inr rfl))))
    (dss_cons (ds_asg (de_op op_mod os_mod (de_cb (fun h => pe_callTy call_int1 (by rfl) m_int (by decide +kernel) h) cs_int (da_cons (de_v 3 (pv 3)) da_nil)) de_int) (dg_name (pg_name (i := 6) sc__law_exchange.nd rfl (by first | exact .inl rfl | exact .inr rfl))))
    (dss_mid (ds_if (dt_cmp op_eq os_eq (de_op op_mod os_mod (de_cb (fun h => pe_callTy call_int1 (by rfl) m_int (by decide +kernel) h) cs_int (da_cons (de_op op_fdivW os_div (de_v 3 (pv 3)) de_int) da_nil)) de_int) de_int (nomark _))
    (dss_one (ds_asg (de_op op_mod os_mod (de_cb (fun h => pe_callTy call_int1 (by rfl) m_int (by decide +kernel) h) cs_int (da_cons (de_op op_fdivW os_div (de_v 3 (pv 3)) de_int) da_nil)) (de_op op_add os_add (de_v 2 (pv 2)) de_int)) (dg_name (pg_name (i := 6) sc__law_exchange.nd rfl (by first | exact .inl rfl | exact .inr rfl)))))
    dss_nil)
    (dss_cons (ds_asg (de_join (fun ho h => pe_join ho h) de_str (de_o (do_lc (own := [("k", 8)]) (n := 9) rfl sc__law_exchange.nd (di_rng1 (fun h => pi_range1 (by rfl) m_range h) (da_cons (de_v 6 (pv 6)) da_nil)) (blkOk_by (N := ["draws", "place", "most", "shape", "bits", "menu", "size", "fates", "k"]) (sc := defScope s__law_exchange) (own := [("k", 8)]) (by decide +kernel)) (fun _ _ _ _ _ => (dg_name (pg_name (i := 8) sc__law_exchange.nd rfl (by first | exact .inl rfl | exact .inr rfl)))) (fun _ _ _ _ _ => dts_nil) (fun _ _ _ _ _ => (de_ix ix_seq os_ix (de_v 5 (pv 5)) (de_op op_mod os_mod (de_cb (fun h => pe_callTy call_int1 (by rfl) m_int (by decide +kernel) h) cs_int (da_cons (de_o (do_call (m := false) (fun h => pe_call C__law_take.ok hr (by rfl) C__law_take.g C__law_take.kp C__law_take.b .nil pass0 h) (da_cons (de_v 0 (pv 0)) (da_slot (pv 1) da_nil)))) da_nil)) (de_cb (fun h => pe_callB call_len (by rfl) m_len PySem.boot_len h) cs_len (da_cons (de_v 5 (pv 5)) da_nil)))))))) (dg_name (pg_name (i := 7) sc__law_exchange.nd rfl (by first | exact .inl rfl | exact .inr rfl))))
    (dss_one (ds_ret (de_tup (da_cons (de_op op_mod os_mod (de_cb (fun h => pe_callTy call_int1 (by rfl) m_int (by decide +kernel) h) cs_int (da_cons (de_v 4 (pv 4)) da_nil)) de_int) (da_cons (de_op op_mod os_mod (de_cb (fun h => pe_callTy call_int1 (by rfl) m_int (by decide +kernel) h) cs_int (da_cons (de_op op_fdivW os_div (de_v 4 (pv 4)) de_int) da_nil)) de_int) (da_cons (de_v 7 (pv 7)) da_nil)))))))))))), fun ds QD h => ?_⟩)
  · first
      | (obtain ⟨rfl, _⟩ := h; exact ⟨rfl, rfl⟩)
      | (obtain ⟨_, rfl, _⟩ := h; exact ⟨rfl, rfl⟩)
      | (obtain ⟨_, _, rfl, _⟩ := h; exact ⟨rfl, rfl⟩)
      | (obtain ⟨_, _, _, rfl, _⟩ := h; exact ⟨rfl, rfl⟩)
      | (obtain ⟨_, _, _, _, rfl, _⟩ := h; exact ⟨rfl, rfl⟩)
      | (obtain ⟨_, _, _, _, _, rfl, _⟩ := h; exact ⟨rfl, rfl⟩)
      | (obtain ⟨_, _, _, _, _, _, rfl, _⟩ := h; exact ⟨rfl, rfl⟩)
      | (obtain ⟨_, _, _, _, _, _, _, rfl, _⟩ := h; exact ⟨rfl, rfl⟩)
      | (obtain ⟨_, _, _, _, _, _, _, _, rfl, _⟩ := h; exact ⟨rfl, rfl⟩)
      | (obtain ⟨_, _, _, _, _, _, _, _, _, rfl, _⟩ := h; exact ⟨rfl, rfl⟩)
      | (obtain ⟨_, _, _, _, _, _, _, _, _, _, rfl, _⟩ := h; exact ⟨rfl, rfl⟩)
      | (obtain ⟨_, _, _, _, _, _, _, _, _, _, _, rfl, _⟩ := h; exact ⟨rfl, rfl⟩)
  · obtain ⟨rs, k, most, rfl, hm, q⟩ := h
    walk_at "ax"
    refine ⟨rs, k, rfl, ?_⟩
    generalize rs.getD k 0 = sh
    walk_at "ax"
    refine ⟨rs, k + 1, rfl, ?_⟩
    generalize rs.getD (k + 1) 0 = bi
    walk_at "ax"
    refine ⟨fun e => ∃ m : Str, e = [some (.sh (.lst (pI rs))), some (.ol [.int ((k + 3 : Nat) : Int)]), some (.sh (.int (most : Int))), some (.sh (.int sh)), some (.sh (.int bi)), some (.sh (.str m)), none, none, none] ∧ menuOk (.str m) = true, ?_, ?_⟩
    · walk_at "ax"
      refine ⟨rs, k + 2, rfl, ?_⟩
      generalize rs.getD (k + 2) 0 = me
      walk_at "ax"
      refine at_lit rfl (by decide) _ fun p hp => ?_
      have hm := List.all_eq_true.mp (show List.all _ menuOk = true by decide +kernel) p hp
      cases p with
      | str m =>
        walk_at "ax"
        exact ⟨m, rfl, hm⟩
      | _ => cases hm
    rintro _ ⟨m, rfl, hmo⟩
    obtain ⟨m0, m1, m2⟩ := menu_is hmo
    walk_at "ax"
    refine ⟨fun e => ∃ n : Nat, e = [some (.sh (.lst (pI rs))), some (.ol [.int ((k + 3 : Nat) : Int)]), some (.sh (.int (most : Int))), some (.sh (.int sh)), some (.sh (.int bi)), some (.sh (.str m)), some (.sh (.int (n : Int))), none, none] ∧ n ≤ 60, ?_, ?_⟩
    · walk_at "ax"
      · obtain ⟨t, h1, h2⟩ := md (sh / 28) (show (0 : Int) < (most : Int) + 1 by omega)
        exact ⟨t, by rw [← h1]; rfl, by omega⟩
      · obtain ⟨t, h1, h2⟩ := md sh (show (0 : Int) < 7 by decide)
        exact ⟨t, by rw [← h1]; rfl, by omega⟩
    rintro _ ⟨n, rfl, hn⟩
    walk_at "ax"
    refine ⟨⟨_, rfl⟩, ?_⟩
    walk_at "ax"
    refine ⟨fun j acc e => ∃ (l : List Nat) (k' : Nat), acc = l.map (fun c => P.str ⟨#[c]⟩) ∧ l.length = j ∧ (∀ c ∈ l, c ∈ fateL) ∧ e = [some (.sh (.lst (pI rs))), some (.ol [.int (k' : Int)]), some (.sh (.int (most : Int))), some (.sh (.int sh)), some (.sh (.int bi)), some (.sh (.str m)), some (.sh (.int (n : Int))), none, none], ⟨[], _, rfl, rfl, fun c hc => (by cases hc), rfl⟩, fun j x acc e hp hJ => ?_, fun acc e hJ => ?_⟩
    · obtain ⟨l, k', rfl, hll, hlf, rfl⟩ := hJ
      obtain ⟨hj, rfl⟩ := rngP_get hp
      rw [Int.toNat_natCast] at hj
      have eml : (l.map (fun c => P.str ⟨#[c]⟩)).length = l.length := List.length_map _
      walk_at "ax"
      refine ⟨rs, k', rfl, ?_⟩
      generalize rs.getD k' 0 = w
      walk_at "ax"
      refine sign_ix m0 _ fun c hc => ?_
      walk_at "ax"
      exact ⟨l ++ [c], k' + 1, by rw [List.map_append]; rfl, by rw [List.length_append, hll]; rfl, fun d hd => by
        rcases List.mem_append.mp hd with hd | hd
        · exact hlf d hd
        · rw [List.mem_singleton.mp hd]; exact m2 c hc, rfl⟩
    obtain ⟨l, k', rfl, hll, hlf, rfl⟩ := hJ
    rw [rngP_len, Int.toNat_natCast] at hll
    walk_at "ax"
    refine ⟨l.map fun c => mkS [c], by rw [List.map_map]; rfl, ?_, ?_⟩
    · rw [List.map_map]
      have h1 : (l.map ((fun (x : Str) => x.length) ∘ fun c => mkS [c])).sum = l.length := by
        clear hll hlf
        induction l with
        | nil => rfl
        | cons c l ih => rw [List.map_cons, List.sum_cons, ih, List.length_cons]; show 1 + _ = _; omega
      rw [h1, show (Str.ofString "").length = 0 by decide +kernel]
      omega
    rw [join_mk]
    walk_at "ax"
    exact q _ _ l k' (bit2 bi) (bit2 (bi / 2)) (by omega) hlf
/-! ### _law_spoilt -/
abbrev s__law_spoilt : Stmt := topS 21
theorem sc__law_spoilt : FnScope ["fates", "draws", "place", "menu", "k", "at"] ["fates", "draws", "place"] (defScope s__law_spoilt) := ⟨rfl, rfl, rfl, by decide +kernel, rfl, by decide +kernel, by decide +kernel⟩
def fs__law_spoilt (cExchange cHouseError cBadBit cBadEnd cBadFate cENDS cARRIVING : Addr) : FSp := fun ds Q => ∃ (l : List Nat) (rs : List Int) (k : Nat), ds = [.sh (.str (mkS l)), .sh (.lst (pI rs)), .ol [.int (k : Int)]] ∧ l.length ≤ 60 ∧ ∀ (l' : List Nat) (k' : Nat), l'.length ≤ 60 → Q (.sh (.str (mkS l'))) [.sh (.str (mkS l)), .sh (.lst (pI rs)), .ol [.int (k' : Int)]]
theorem ok__law_spoilt {Pg : Program} {w : World} {K : PySem.W.Frag} {mg : Str → Option Value} {base : Heap} {a : Addr} {fd : FuncData} (F : L2.Fun K "_law_spoilt" "_law_spoilt" s__law_spoilt a fd)
    (m_range : mg "range" = none)
    (m_int : mg "int" = none)
    (m_len : mg "len" = none)
    {cExchange cHouseError cBadBit cBadEnd cBadFate cENDS cARRIVING : Addr} (T : Txt K mg cExchange cHouseError cBadBit cBadEnd cBadFate cENDS cARRIVING)
    {a__law_take : Addr} {d__law_take : FuncData} (C__law_take : Callee Pg w K mg base 1 "_law_take" a__law_take d__law_take ["draws", "place"] (fs__law_take cExchange cHouseError cBadBit cBadEnd cBadFate cENDS cARRIVING)) :
    FnOk Pg w K mg base CX0 2 a fd ["fates", "draws", "place"] (spD K (fs__law_spoilt cExchange cHouseError cBadBit cBadEnd cBadFate cENDS cARRIVING)) := by
  have n_Exchange_first_bit : ClsA K cExchange "first_bit" := ⟨T.cl_Exchange, T.n_Exchange_first_bit⟩
  have n_Exchange_second_bit : ClsA K cExchange "second_bit" := ⟨T.cl_Exchange, T.n_Exchange_second_bit⟩
  have n_Exchange_fates : ClsA K cExchange "fates" := ⟨T.cl_Exchange, T.n_Exchange_fates⟩
  have is_Exchange := T.is_Exchange
  refine Fun.okD [2] F sc__law_spoilt (fun ds QD h => ?_) (fun cdv A outer s H E hr => ⟨_, _, (dss_mid (ds_asg de_str (dg_name (pg_name (i := 3) sc__law_spoilt.nd rfl (by first | exact .inl rfl | exact .inr rfl))))
    (dss_cons (ds_for PassesOwn.never rfl (di_rng1 (fun h => pi_range1 (by rfl) m_range h) (da_cons (de_op op_add os_add de_int (de_op op_mod os_mod (de_cb (fun h => pe_callTy call_int1 (by rfl) m_int (by decide +kernel) h) cs_int (da_cons (de_o (do_call (m := false) (fun h => pe_call C__law_take.ok hr (by rfl) C__law_take.g C__law_take.kp C__law_take.b .nil pass0 h) (da_cons (de_v 1 (pv 1)) (da_slot (pv 2) da_nil)))) da_nil)) de_int)) da_nil)) (dg_name (pg_name (i := 4) sc__law_spoilt.nd rfl (by first | exact .inl rfl | exact .inr rfl)))
    (dss_cons (ds_asg (de_op op_mod os_mod (de_cb (fun h => pe_callTy call_int1 (by rfl) m_int (by decide +kernel) h) cs_int (da_cons (de_o (do_call (m := false) (fun h => pe_call C__law_take.ok hr (by rfl) C__law_take.g C__law_take.kp C__law_take.b .nil pass0 h) (da_cons (de_v 1 (pv 1)) (da_slot (pv 2) da_nil)))) da_nil)) (de_op op_add os_add (de_cb (fun h => pe_callB call_len (by rfl) m_len PySem.boot_len h) cs_len (da_cons (de_v 0 (pv 0)) da_nil)) de_int)) (dg_name (pg_name (i := 5) sc__law_spoilt.nd rfl (by first | exact .inl rfl | exact .inr rfl))))
    (dss_one (ds_asg (de_slT (de_op op_add_str os_strcat (de_op op_add_str os_strcat (de_slT (de_v 0 (pv 0)) dpo_none (dpo_some (de_v 5 (pv 5)))) (de_ix ix_seq os_ix (de_v 3 (pv 3)) (de_op op_mod os_mod (de_cb (fun h => pe_callTy call_int1 (by rfl) m_int (by decide +kernel) h) cs_int (da_cons (de_o (do_call (m := false) (fun h => pe_call C__law_take.ok hr (by rfl) C__law_take.g C__law_take.kp C__law_take.b .nil pass0 h) (da_cons (de_v 1 (pv 1)) (da_slot (pv 2) da_nil)))) da_nil)) (de_cb (fun h => pe_callB call_len (by rfl) m_len PySem.boot_len h) cs_len (da_cons (de_v 3 (pv 3)) da_nil))))) (de_slT (de_v 0 (pv 0)) (dpo_some (de_op op_add os_add (de_v 5 (pv 5)) de_int)) dpo_none)) dpo_none (dpo_some de_int)) (dg_name (pg_name (i := 0) sc__law_spoilt.nd rfl (by first | exact .inl rfl | exact .inr rfl)))))))
    (dss_one (ds_ret (de_v 0 (pv 0)))))), fun ds QD h => ?_⟩)
  · first
      | (obtain ⟨rfl, _⟩ := h; exact ⟨rfl, rfl⟩)
      | (obtain ⟨_, rfl, _⟩ := h; exact ⟨rfl, rfl⟩)
      | (obtain ⟨_, _, rfl, _⟩ := h; exact ⟨rfl, rfl⟩)
      | (obtain ⟨_, _, _, rfl, _⟩ := h; exact ⟨rfl, rfl⟩)
      | (obtain ⟨_, _, _, _, rfl, _⟩ := h; exact ⟨rfl, rfl⟩)
      | (obtain ⟨_, _, _, _, _, rfl, _⟩ := h; exact ⟨rfl, rfl⟩)
      | (obtain ⟨_, _, _, _, _, _, rfl, _⟩ := h; exact ⟨rfl, rfl⟩)
      | (obtain ⟨_, _, _, _, _, _, _, rfl, _⟩ := h; exact ⟨rfl, rfl⟩)
      | (obtain ⟨_, _, _, _, _, _, _, _, rfl, _⟩ := h; exact ⟨rfl, rfl⟩)
      | (obtain ⟨_, _, _, _, _, _, _, _, _, rfl, _⟩ := h; exact ⟨rfl, rfl⟩)
      | (obtain ⟨_, _, _, _, _, _, _, _, _, _, rfl, _⟩ := h; exact ⟨rfl, rfl⟩)
      | (obtain ⟨_, _, _, _, _, _, _, _, _, _, _, rfl, _⟩ := h; exact ⟨rfl, rfl⟩)
  · obtain ⟨l, rs, k, rfl, hl, q⟩ := h
    have hz := sizeLine_eq
    refine ⟨fun e => ∃ z : Str, e = [some (.sh (.str (mkS l))), some (.sh (.lst (pI rs))), some (.ol [.int (k : Int)]), some (.sh (.str z)), none, none] ∧ 0 < z.length ∧ z.length ≤ 100, ?_, ?_⟩
    · walk_at "ax"
      exact ⟨_, rfl, by decide +kernel, by decide +kernel⟩
    rintro _ ⟨z, rfl, z0, z1⟩
    walk_at "ax"
    refine ⟨rs, k, rfl, ?_⟩
    generalize rs.getD k 0 = w
    obtain ⟨n, n1, n2⟩ := md w (show (0 : Int) < 2 by decide)
    walk_at "ax"
    rw [n1]
    refine ⟨fun i e => ∃ (l' : List Nat) (k' : Nat) (u4 u5 : Option D), e = [some (.sh (.str (mkS l'))), some (.sh (.lst (pI rs))), some (.ol [.int (k' : Int)]), some (.sh (.str z)), u4, u5] ∧ l'.length ≤ 60, ⟨l, k + 1, none, none, rfl, hl⟩, fun i x e hp hI => ?_, fun e hI => ?_⟩
    · obtain ⟨l', k', u4, u5, rfl, hl'⟩ := hI
      obtain ⟨hi, rfl⟩ := rngP_get hp
      have el := mkS_len l'
      walk_at "ax"
      refine ⟨rs, k', rfl, ?_⟩
      generalize rs.getD k' 0 = w1
      obtain ⟨t, h1, h2⟩ := md w1 (show (0 : Int) < (l'.length : Int) + 1 by omega)
      walk_at "ax"
      rw [el, h1, cut_to]
      refine ⟨rs, k' + 1, rfl, ?_⟩
      generalize rs.getD (k' + 1) 0 = w2
      have e1 := mkS_len (l'.take t)
      have e3 : (l'.take t).length ≤ 60 := by rw [List.length_take]; omega
      walk_at "ax"
      refine sign_ix z0 _ fun c hc => ?_
      rw [show (⟨#[c]⟩ : Str) = mkS [c] from rfl]
      have e2 := mkS_len [c]
      have e4 : [c].length = 1 := rfl
      walk_at "ax"
      rw [app_mk, h1, show (t : Int) + 1 = ((t + 1 : Nat) : Int) by omega, cut_from]
      have e5 := mkS_len (l'.take t ++ [c])
      have e6 := mkS_len (l'.drop (t + 1))
      rw [List.length_append] at e5
      rw [List.length_drop] at e6
      walk_at "ax"
      rw [app_mk]
      have e7 := mkS_len (l'.take t ++ [c] ++ l'.drop (t + 1))
      rw [List.length_append, List.length_append, List.length_drop] at e7
      walk_at "ax"
      rw [show (60 : Int) = ((60 : Nat) : Int) from rfl, cut_to]
      exact ⟨_, _, _, _, rfl, by rw [List.length_take]; exact Nat.min_le_left _ _⟩
    obtain ⟨l', k', u4, u5, rfl, hl'⟩ := hI
    walk_at "ax"
    exact q l' k' hl'
/-! ### _law_is_view -/
abbrev s__law_is_view : Stmt := topS 25
theorem sc__law_is_view : FnScope ["told", "due"] ["told", "due"] (defScope s__law_is_view) := ⟨rfl, rfl, rfl, by decide +kernel, rfl, by decide +kernel, by decide +kernel⟩
def fs__law_is_view (cExchange cHouseError cBadBit cBadEnd cBadFate cENDS cARRIVING : Addr) : FSp := fun ds Q => ∃ (e : Str) (a b : Int) (l : List Nat), ds = [.sh (viewP e a b l), .sh (viewP e a b l)] ∧ Q (.sh (.bl true)) ds
theorem ok__law_is_view {Pg : Program} {w : World} {K : PySem.W.Frag} {mg : Str → Option Value} {base : Heap} {a : Addr} {fd : FuncData} (F : L2.Fun K "_law_is_view" "_law_is_view" s__law_is_view a fd)
    (m_isinstance : mg "isinstance" = none)
    (m_tuple : mg "tuple" = none)
    (m_len : mg "len" = none)
    (m_str : mg "str" = none)
    {cExchange cHouseError cBadBit cBadEnd cBadFate cENDS cARRIVING : Addr} (T : Txt K mg cExchange cHouseError cBadBit cBadEnd cBadFate cENDS cARRIVING)
    {a__law_is_number : Addr} {d__law_is_number : FuncData} (C__law_is_number : Callee Pg w K mg base 1 "_law_is_number" a__law_is_number d__law_is_number ["told", "due"] (fs__law_is_number cExchange cHouseError cBadBit cBadEnd cBadFate cENDS cARRIVING)) :
    FnOk Pg w K mg base CX0 2 a fd ["told", "due"] (spD K (fs__law_is_view cExchange cHouseError cBadBit cBadEnd cBadFate cENDS cARRIVING)) := by
  have n_Exchange_first_bit : ClsA K cExchange "first_bit" := ⟨T.cl_Exchange, T.n_Exchange_first_bit⟩
  have n_Exchange_second_bit : ClsA K cExchange "second_bit" := ⟨T.cl_Exchange, T.n_Exchange_second_bit⟩
  have n_Exchange_fates : ClsA K cExchange "fates" := ⟨T.cl_Exchange, T.n_Exchange_fates⟩
  have is_Exchange := T.is_Exchange
  refine Fun.okD [] F sc__law_is_view (fun ds QD h => ?_) (fun cdv A outer s H E hr => ⟨_, _, (dss_cons (ds_if (DW.pt (dw_or (dt_not (dt_tru (de_cb (fun h => pe_callB call_isi (by rfl) m_isinstance (by decide +kernel) h) cs_isi (da_cons (de_v 0 (pv 0)) (da_cons (de_glob (p := .ty "tuple") (pe_bltn (v := .ty "tuple") (u := .type "tuple") (by rfl) m_tuple (by decide +kernel) rfl) (fun _ => rfl)) da_nil))))) (dw_or1 (dt_cmp op_ne os_ne (de_cb (fun h => pe_callB call_len (by rfl) m_len PySem.boot_len h) cs_len (da_cons (de_v 0 (pv 0)) da_nil)) de_int (nomark _)))))
    (dss_one (ds_ret de_bl))
    dss_nil)
    (dss_cons (ds_if (DW.pt (dw_and (dt_cmp op_isN os_isN (de_ix ix_seq os_ix (de_v 1 (pv 1)) de_int) de_non (nomark _)) (dw_and1 (dt_cmp op_notN os_notN (de_ix ix_seq os_ix (de_v 0 (pv 0)) de_int) de_non (nomark _)))))
    (dss_one (ds_ret de_bl))
    dss_nil)
    (dss_cons (ds_if (DW.pt (dw_and (dt_cmp op_notN os_notN (de_ix ix_seq os_ix (de_v 1 (pv 1)) de_int) de_non (nomark _)) (dw_and1 (dt_not (dt_tru (de_o (do_callP (fun h => pe_call C__law_is_number.ok hr (by rfl) C__law_is_number.g C__law_is_number.kp C__law_is_number.b .nil pass0 h) (da_cons (de_ix ix_seq os_ix (de_v 0 (pv 0)) de_int) (da_cons (de_ix ix_seq os_ix (de_v 1 (pv 1)) de_int) da_nil)))))))))
    (dss_one (ds_ret de_bl))
    dss_nil)
    (dss_cons (ds_if (DW.pt (dw_or (dt_not (dt_tru (de_o (do_callP (fun h => pe_call C__law_is_number.ok hr (by rfl) C__law_is_number.g C__law_is_number.kp C__law_is_number.b .nil pass0 h) (da_cons (de_ix ix_seq os_ix (de_v 0 (pv 0)) de_int) (da_cons (de_ix ix_seq os_ix (de_v 1 (pv 1)) de_int) da_nil)))))) (dw_or1 (dt_not (dt_tru (de_o (do_callP (fun h => pe_call C__law_is_number.ok hr (by rfl) C__law_is_number.g C__law_is_number.kp C__law_is_number.b .nil pass0 h) (da_cons (de_ix ix_seq os_ix (de_v 0 (pv 0)) de_int) (da_cons (de_ix ix_seq os_ix (de_v 1 (pv 1)) de_int) da_nil)))))))))
    (dss_one (ds_ret de_bl))
    dss_nil)
    (dss_one (ds_ret (de_and (de_cb (fun h => pe_callB call_isi (by rfl) m_isinstance (by decide +kernel) h) cs_isi (da_cons (de_ix ix_seq os_ix (de_v 0 (pv 0)) de_int) (da_cons (de_glob (p := .ty "str") (pe_bltn (v := .ty "str") (u := .type "str") (by rfl) m_str (by decide +kernel) rfl) (fun _ => rfl)) da_nil))) (de_one (de_cmp op_eq os_eq (de_ix ix_seq os_ix (de_v 0 (pv 0)) de_int) (de_ix ix_seq os_ix (de_v 1 (pv 1)) de_int) (nomark _)))))))))), fun ds QD h => ?_⟩)
  · first
      | (obtain ⟨rfl, _⟩ := h; exact ⟨rfl, rfl⟩)
      | (obtain ⟨_, rfl, _⟩ := h; exact ⟨rfl, rfl⟩)
      | (obtain ⟨_, _, rfl, _⟩ := h; exact ⟨rfl, rfl⟩)
      | (obtain ⟨_, _, _, rfl, _⟩ := h; exact ⟨rfl, rfl⟩)
      | (obtain ⟨_, _, _, _, rfl, _⟩ := h; exact ⟨rfl, rfl⟩)
      | (obtain ⟨_, _, _, _, _, rfl, _⟩ := h; exact ⟨rfl, rfl⟩)
      | (obtain ⟨_, _, _, _, _, _, rfl, _⟩ := h; exact ⟨rfl, rfl⟩)
      | (obtain ⟨_, _, _, _, _, _, _, rfl, _⟩ := h; exact ⟨rfl, rfl⟩)
      | (obtain ⟨_, _, _, _, _, _, _, _, rfl, _⟩ := h; exact ⟨rfl, rfl⟩)
      | (obtain ⟨_, _, _, _, _, _, _, _, _, rfl, _⟩ := h; exact ⟨rfl, rfl⟩)
      | (obtain ⟨_, _, _, _, _, _, _, _, _, _, rfl, _⟩ := h; exact ⟨rfl, rfl⟩)
      | (obtain ⟨_, _, _, _, _, _, _, _, _, _, _, rfl, _⟩ := h; exact ⟨rfl, rfl⟩)
  · obtain ⟨e, a, b, l, rfl, q⟩ := h
    revert q
    unfold viewP
    split
    · intro q
      walk_at "ax"
      refine ⟨_, rfl, ?_⟩
      walk_at "ax"
      refine ⟨_, rfl, ?_⟩
      walk_at "ax"
      refine ⟨_, rfl, ?_⟩
      walk_at "ax"
      refine ⟨_, rfl, ?_⟩
      walk_at "ax"
      rw [decide_eq_true rfl]
      exact q
    · rename_i k _
      intro q
      walk_at "ax"
      refine ⟨_, rfl, ?_⟩
      walk_at "ax"
      refine ⟨_, rfl, ?_⟩
      walk_at "ax"
      refine ⟨_, rfl, ?_⟩
      walk_at "ax"
      refine ⟨_, rfl, ?_⟩
      walk_at "ax"
      refine ⟨_, rfl, ?_⟩
      walk_at "ax"
      rw [decide_eq_true rfl]
      exact q
/-! ### check_end -/
abbrev s_check_end : Stmt := topS 9
theorem sc_check_end : FnScope ["end"] ["end"] (defScope s_check_end) := ⟨rfl, rfl, rfl, by decide +kernel, rfl, by decide +kernel, by decide +kernel⟩
def fs_check_end (cExchange cHouseError cBadBit cBadEnd cBadFate cENDS cARRIVING : Addr) : FSp := fun ds Q => ∃ e : Str, ds = [.sh (.str e)] ∧ EndS e ∧ Q (.sh .non) ds
def fx_check_end (cExchange cHouseError cBadBit cBadEnd cBadFate cENDS cARRIVING : Addr) : FXp := fun ds RD => ∃ e : Str, ds = [.sh (.str e)] ∧ ¬ EndS e ∧ RD ⟨cBadEnd, "end", .str e⟩
theorem ok_x_check_end {Pg : Program} {w : World} {K : PySem.W.Frag} {mg : Str → Option Value} {base : Heap} {a : Addr} {fd : FuncData} (F : L2.Fun K "check_end" "check_end" s_check_end a fd)
    {cExchange cHouseError cBadBit cBadEnd cBadFate cENDS cARRIVING : Addr} (T : Txt K mg cExchange cHouseError cBadBit cBadEnd cBadFate cENDS cARRIVING)
    {aE_BadEnd : Addr} {dE_BadEnd : FuncData} (R_BadEnd : CalleeE Pg w K mg base 1 "BadEnd" cBadEnd aE_BadEnd dE_BadEnd ["self", "end"] "end") :
    FnOk Pg w K mg base (L2.CX Pg w) 3 a fd ["end"] (spX K (fs_check_end cExchange cHouseError cBadBit cBadEnd cBadFate cENDS cARRIVING) (fx_check_end cExchange cHouseError cBadBit cBadEnd cBadFate cENDS cARRIVING)) := by
  have n_Exchange_first_bit : ClsA K cExchange "first_bit" := ⟨T.cl_Exchange, T.n_Exchange_first_bit⟩
  have n_Exchange_second_bit : ClsA K cExchange "second_bit" := ⟨T.cl_Exchange, T.n_Exchange_second_bit⟩
  have n_Exchange_fates : ClsA K cExchange "fates" := ⟨T.cl_Exchange, T.n_Exchange_fates⟩
  have is_Exchange := T.is_Exchange
  refine Fun.okDX [] F sc_check_end (fun ds QD h => ?_) (fun ds RD h => ?_) (fun cdv A outer s H E RD hE hr => ⟨_, _, (dss_one (ds_if (dt_cmp op_notIn_seq os_notIn (de_v 0 (pv 0)) (de_glob (v := .ref cENDS) (p := .tup (List.map P.str ["first", "second"])) (pe_glob (by rfl) T.mg_ENDS rfl) (KT.rp T.kt_ENDS)) (by rfl))
    (dss_one (ds_err (fun h => ps_raise rfl (takes_of rfl rfl rfl rfl) (pmk_oex R_BadEnd.t.ox R_BadEnd.t.ini R_BadEnd.t.fn R_BadEnd.ok (hr.mono (by decide)) R_BadEnd.b .nil pass0 (by rfl) R_BadEnd.t.mg h)) hE R_BadEnd.t.ox R_BadEnd.t.no (da_cons (de_v 0 (pv 0)) da_nil)))
    dss_nil)), fun ds QD h => ?_, fun ds h => ?_⟩)
  · first
      | (obtain ⟨rfl, _⟩ := h; exact ⟨rfl, rfl⟩)
      | (obtain ⟨_, rfl, _⟩ := h; exact ⟨rfl, rfl⟩)
      | (obtain ⟨_, _, rfl, _⟩ := h; exact ⟨rfl, rfl⟩)
      | (obtain ⟨_, _, _, rfl, _⟩ := h; exact ⟨rfl, rfl⟩)
      | (obtain ⟨_, _, _, _, rfl, _⟩ := h; exact ⟨rfl, rfl⟩)
      | (obtain ⟨_, _, _, _, _, rfl, _⟩ := h; exact ⟨rfl, rfl⟩)
      | (obtain ⟨_, _, _, _, _, _, rfl, _⟩ := h; exact ⟨rfl, rfl⟩)
      | (obtain ⟨_, _, _, _, _, _, _, rfl, _⟩ := h; exact ⟨rfl, rfl⟩)
      | (obtain ⟨_, _, _, _, _, _, _, _, rfl, _⟩ := h; exact ⟨rfl, rfl⟩)
      | (obtain ⟨_, _, _, _, _, _, _, _, _, rfl, _⟩ := h; exact ⟨rfl, rfl⟩)
      | (obtain ⟨_, _, _, _, _, _, _, _, _, _, rfl, _⟩ := h; exact ⟨rfl, rfl⟩)
      | (obtain ⟨_, _, _, _, _, _, _, _, _, _, _, rfl, _⟩ := h; exact ⟨rfl, rfl⟩)
  · first
      | (obtain ⟨rfl, _⟩ := h; rfl)
      | (obtain ⟨_, rfl, _⟩ := h; rfl)
      | (obtain ⟨_, _, rfl, _⟩ := h; rfl)
      | (obtain ⟨_, _, _, rfl, _⟩ := h; rfl)
      | (obtain ⟨_, _, _, _, rfl, _⟩ := h; rfl)
      | (obtain ⟨_, _, _, _, _, rfl, _⟩ := h; rfl)
      | (obtain ⟨_, _, _, _, _, _, rfl, _⟩ := h; rfl)
      | (obtain ⟨_, _, _, _, _, _, _, rfl, _⟩ := h; rfl)
      | (obtain ⟨_, _, _, _, _, _, _, _, rfl, _⟩ := h; rfl)
      | (obtain ⟨_, _, _, _, _, _, _, _, _, rfl, _⟩ := h; rfl)
      | (obtain ⟨_, _, _, _, _, _, _, _, _, _, rfl, _⟩ := h; rfl)
      | (obtain ⟨_, _, _, _, _, _, _, _, _, _, _, rfl, _⟩ := h; rfl)
      | exact h.elim
  · obtain ⟨e, rfl, he, q⟩ := h
    have hm : e ∈ [Str.ofString "first", Str.ofString "second"] := by rcases he with rfl | rfl <;> simp
    walk_at "ax"
    refine .inr ⟨e, [Str.ofString "first", Str.ofString "second"], rfl, rfl, ?_⟩
    walk_at "ax"
    · first | (rename_i hc; exact absurd hm (mem_nt hc rfl)) | (rename_i hc _; exact absurd hm (mem_nt hc rfl)) | (rename_i hc; exact absurd (mem_nf hc rfl) hm) | (rename_i hc _; exact absurd (mem_nf hc rfl) hm)
    exact q
  · obtain ⟨e, rfl, he, q⟩ := h
    have hm : e ∉ [Str.ofString "first", Str.ofString "second"] := fun hm => he (by
      rcases List.mem_cons.mp hm with h | h
      · exact .inl h
      · exact .inr (List.mem_singleton.mp h))
    walk_at "ax"
    refine .inr ⟨e, [Str.ofString "first", Str.ofString "second"], rfl, rfl, ?_⟩
    walk_at "ax"
    · exact q
    · first | (rename_i hc; exact absurd hm (mem_nt hc rfl)) | (rename_i hc _; exact absurd hm (mem_nt hc rfl)) | (rename_i hc; exact absurd (mem_nf hc rfl) hm) | (rename_i hc _; exact absurd (mem_nf hc rfl) hm)
/-! ### check_bits -/
abbrev s_check_bits : Stmt := topS 10
theorem sc_check_bits : FnScope ["bits", "bit"] ["bits"] (defScope s_check_bits) := ⟨rfl, rfl, rfl, by decide +kernel, rfl, by decide +kernel, by decide +kernel⟩
def fs_check_bits (cExchange cHouseError cBadBit cBadEnd cBadFate cENDS cARRIVING : Addr) : FSp := fun ds Q => ∃ bs : List Int, ds = [.sh (.lst (pI bs))] ∧ (∀ b ∈ bs, bitOk b) ∧ Q (.sh .non) ds
def fx_check_bits (cExchange cHouseError cBadBit cBadEnd cBadFate cENDS cARRIVING : Addr) : FXp := fun ds RD => ∃ (bs : List Int) (i : Nat) (b : Int), ds = [.sh (.lst (pI bs))] ∧ (bs[i]? = some b ∧ ¬ bitOk b ∧ ∀ c ∈ bs.take i, bitOk c) ∧ RD ⟨cBadBit, "bit", .int b⟩
theorem ok_x_check_bits {Pg : Program} {w : World} {K : PySem.W.Frag} {mg : Str → Option Value} {base : Heap} {a : Addr} {fd : FuncData} (F : L2.Fun K "check_bits" "check_bits" s_check_bits a fd)
    {cExchange cHouseError cBadBit cBadEnd cBadFate cENDS cARRIVING : Addr} (T : Txt K mg cExchange cHouseError cBadBit cBadEnd cBadFate cENDS cARRIVING)
    {aE_BadBit : Addr} {dE_BadBit : FuncData} (R_BadBit : CalleeE Pg w K mg base 1 "BadBit" cBadBit aE_BadBit dE_BadBit ["self", "bit"] "bit") :
    FnOk Pg w K mg base (L2.CX Pg w) 3 a fd ["bits"] (spX K (fs_check_bits cExchange cHouseError cBadBit cBadEnd cBadFate cENDS cARRIVING) (fx_check_bits cExchange cHouseError cBadBit cBadEnd cBadFate cENDS cARRIVING)) := by
  have n_Exchange_first_bit : ClsA K cExchange "first_bit" := ⟨T.cl_Exchange, T.n_Exchange_first_bit⟩
  have n_Exchange_second_bit : ClsA K cExchange "second_bit" := ⟨T.cl_Exchange, T.n_Exchange_second_bit⟩
  have n_Exchange_fates : ClsA K cExchange "fates" := ⟨T.cl_Exchange, T.n_Exchange_fates⟩
  have is_Exchange := T.is_Exchange
  refine Fun.okDX [] F sc_check_bits (fun ds QD h => ?_) (fun ds RD h => ?_) (fun cdv A outer s H E RD hE hr => ⟨_, _, (dss_one (ds_for (passes_of rfl) rfl (di_seq (de_v 0 (pv 0))) (dg_name (pg_name (i := 1) sc_check_bits.nd rfl (by first | exact .inl rfl | exact .inr rfl)))
    (dss_one (ds_if (dt_cmp op_notIn_seq os_notIn (de_v 1 (pv 1)) (de_tup (da_cons de_int (da_cons de_int da_nil))) (by rfl))
    (dss_one (ds_err (fun h => ps_raise rfl (takes_of rfl rfl rfl rfl) (pmk_oex R_BadBit.t.ox R_BadBit.t.ini R_BadBit.t.fn R_BadBit.ok (hr.mono (by decide)) R_BadBit.b .nil pass0 (by rfl) R_BadBit.t.mg h)) hE R_BadBit.t.ox R_BadBit.t.no (da_cons (de_v 1 (pv 1)) da_nil)))
    dss_nil)))), fun ds QD h => ?_, fun ds h => ?_⟩)
  · first
      | (obtain ⟨rfl, _⟩ := h; exact ⟨rfl, rfl⟩)
      | (obtain ⟨_, rfl, _⟩ := h; exact ⟨rfl, rfl⟩)
      | (obtain ⟨_, _, rfl, _⟩ := h; exact ⟨rfl, rfl⟩)
      | (obtain ⟨_, _, _, rfl, _⟩ := h; exact ⟨rfl, rfl⟩)
      | (obtain ⟨_, _, _, _, rfl, _⟩ := h; exact ⟨rfl, rfl⟩)
      | (obtain ⟨_, _, _, _, _, rfl, _⟩ := h; exact ⟨rfl, rfl⟩)
      | (obtain ⟨_, _, _, _, _, _, rfl, _⟩ := h; exact ⟨rfl, rfl⟩)
      | (obtain ⟨_, _, _, _, _, _, _, rfl, _⟩ := h; exact ⟨rfl, rfl⟩)
      | (obtain ⟨_, _, _, _, _, _, _, _, rfl, _⟩ := h; exact ⟨rfl, rfl⟩)
      | (obtain ⟨_, _, _, _, _, _, _, _, _, rfl, _⟩ := h; exact ⟨rfl, rfl⟩)
      | (obtain ⟨_, _, _, _, _, _, _, _, _, _, rfl, _⟩ := h; exact ⟨rfl, rfl⟩)
      | (obtain ⟨_, _, _, _, _, _, _, _, _, _, _, rfl, _⟩ := h; exact ⟨rfl, rfl⟩)
  · first
      | (obtain ⟨rfl, _⟩ := h; rfl)
      | (obtain ⟨_, rfl, _⟩ := h; rfl)
      | (obtain ⟨_, _, rfl, _⟩ := h; rfl)
      | (obtain ⟨_, _, _, rfl, _⟩ := h; rfl)
      | (obtain ⟨_, _, _, _, rfl, _⟩ := h; rfl)
      | (obtain ⟨_, _, _, _, _, rfl, _⟩ := h; rfl)
      | (obtain ⟨_, _, _, _, _, _, rfl, _⟩ := h; rfl)
      | (obtain ⟨_, _, _, _, _, _, _, rfl, _⟩ := h; rfl)
      | (obtain ⟨_, _, _, _, _, _, _, _, rfl, _⟩ := h; rfl)
      | (obtain ⟨_, _, _, _, _, _, _, _, _, rfl, _⟩ := h; rfl)
      | (obtain ⟨_, _, _, _, _, _, _, _, _, _, rfl, _⟩ := h; rfl)
      | (obtain ⟨_, _, _, _, _, _, _, _, _, _, _, rfl, _⟩ := h; rfl)
      | exact h.elim
  · obtain ⟨bs, rfl, hb, q⟩ := h
    walk_at "ax"
    refine ⟨fun i e => ∃ u1 : Option D, e = [some (.sh (.lst (pI bs))), u1], ⟨none, rfl⟩, fun i x e hp hI => ?_, fun e hI => ?_⟩
    · obtain ⟨u1, rfl⟩ := hI
      obtain ⟨b, hbi, rfl⟩ := map_get hp
      have h1 : b ∈ [(0 : Int), 1] := by rcases hb b (List.mem_of_getElem? hbi) with rfl | rfl <;> simp
      walk_at "ax"
      refine .inl ⟨b, [0, 1], rfl, rfl, ?_⟩
      walk_at "ax"
      · first | (rename_i hc; exact absurd h1 (mem_nt hc rfl)) | (rename_i hc _; exact absurd h1 (mem_nt hc rfl)) | (rename_i hc; exact absurd (mem_nf hc rfl) h1) | (rename_i hc _; exact absurd (mem_nf hc rfl) h1)
      exact ⟨_, rfl⟩
    · obtain ⟨u1, rfl⟩ := hI
      walk_at "ax"
      exact q
  · obtain ⟨bs, i0, b0, rfl, ⟨hb0, hn0, hbf⟩, q⟩ := h
    walk_at "ax"
    refine ⟨fun i e => ∃ u1 : Option D, e = [some (.sh (.lst (pI bs))), u1] ∧ i ≤ i0, ⟨none, rfl, Nat.zero_le _⟩, fun i x e hp hI => ?_, fun e hI => ?_⟩
    · obtain ⟨u1, rfl, hi⟩ := hI
      obtain ⟨b, hbi, rfl⟩ := map_get hp
      rcases Nat.lt_or_eq_of_le hi with hlt | rfl
      · have h1 : b ∈ [(0 : Int), 1] := by rcases hbf b (List.mem_of_getElem? (by rw [List.getElem?_take_of_lt hlt]; exact hbi)) with rfl | rfl <;> simp
        walk_at "ax"
        refine .inl ⟨b, [0, 1], rfl, rfl, ?_⟩
        walk_at "ax"
        · first | (rename_i hc; exact absurd h1 (mem_nt hc rfl)) | (rename_i hc _; exact absurd h1 (mem_nt hc rfl)) | (rename_i hc; exact absurd (mem_nf hc rfl) h1) | (rename_i hc _; exact absurd (mem_nf hc rfl) h1)
        exact ⟨_, rfl, hlt⟩
      · rw [hb0] at hbi
        cases hbi
        have h1 : b0 ∉ [(0 : Int), 1] := fun hm => hn0 (by
          rcases List.mem_cons.mp hm with h | h
          · exact .inl h
          · exact .inr (List.mem_singleton.mp h))
        walk_at "ax"
        refine .inl ⟨b0, [0, 1], rfl, rfl, ?_⟩
        walk_at "ax"
        · exact q
        · first | (rename_i hc; exact absurd h1 (mem_nt hc rfl)) | (rename_i hc _; exact absurd h1 (mem_nt hc rfl)) | (rename_i hc; exact absurd (mem_nf hc rfl) h1) | (rename_i hc _; exact absurd (mem_nf hc rfl) h1)
    · obtain ⟨u1, rfl, hi⟩ := hI
      have := lt_of_get hb0
      rw [pI_len] at hi
      omega
/-! ### check_fates -/
abbrev s_check_fates : Stmt := topS 11
theorem sc_check_fates : FnScope ["fates", "at", "fate"] ["fates"] (defScope s_check_fates) := ⟨rfl, rfl, rfl, by decide +kernel, rfl, by decide +kernel, by decide +kernel⟩
def fs_check_fates (cExchange cHouseError cBadBit cBadEnd cBadFate cENDS cARRIVING : Addr) : FSp := fun ds Q => ∃ l : List Nat, ds = [.sh (.str (mkS l))] ∧ (∀ c ∈ l, c ∈ fateL) ∧ Q (.sh .non) ds
def fx_check_fates (cExchange cHouseError cBadBit cBadEnd cBadFate cENDS cARRIVING : Addr) : FXp := fun ds RD => ∃ (l : List Nat) (i c : Nat), ds = [.sh (.str (mkS l))] ∧ (l[i]? = some c ∧ c ∉ fateL ∧ ∀ c ∈ l.take i, c ∈ fateL) ∧ RD ⟨cBadFate, "at", .int (i : Int)⟩
theorem ok_x_check_fates {Pg : Program} {w : World} {K : PySem.W.Frag} {mg : Str → Option Value} {base : Heap} {a : Addr} {fd : FuncData} (F : L2.Fun K "check_fates" "check_fates" s_check_fates a fd)
    (m_enumerate : mg "enumerate" = none)
    {cExchange cHouseError cBadBit cBadEnd cBadFate cENDS cARRIVING : Addr} (T : Txt K mg cExchange cHouseError cBadBit cBadEnd cBadFate cENDS cARRIVING)
    {aE_BadFate : Addr} {dE_BadFate : FuncData} (R_BadFate : CalleeE Pg w K mg base 1 "BadFate" cBadFate aE_BadFate dE_BadFate ["self", "at"] "at") :
    FnOk Pg w K mg base (L2.CX Pg w) 3 a fd ["fates"] (spX K (fs_check_fates cExchange cHouseError cBadBit cBadEnd cBadFate cENDS cARRIVING) (fx_check_fates cExchange cHouseError cBadBit cBadEnd cBadFate cENDS cARRIVING)) := by
  have n_Exchange_first_bit : ClsA K cExchange "first_bit" := ⟨T.cl_Exchange, T.n_Exchange_first_bit⟩
  have n_Exchange_second_bit : ClsA K cExchange "second_bit" := ⟨T.cl_Exchange, T.n_Exchange_second_bit⟩
  have n_Exchange_fates : ClsA K cExchange "fates" := ⟨T.cl_Exchange, T.n_Exchange_fates⟩
  have is_Exchange := T.is_Exchange
  refine Fun.okDX [] F sc_check_fates (fun ds QD h => ?_) (fun ds RD h => ?_) (fun cdv A outer s H E RD hE hr => ⟨_, _, (dss_one (ds_for (passes_of rfl) rfl (di_enum (by rfl) m_enumerate (da_cons (de_v 0 (pv 0)) da_nil)) (dg_seq (fun h => pg_tup rfl h) (fun h => pg_unl rfl h) (dgs_cons (dg_name (pg_name (i := 1) sc_check_fates.nd rfl (by first | exact .inl rfl | exact .inr rfl))) (dgs_cons (dg_name (pg_name (i := 2) sc_check_fates.nd rfl (by first | exact .inl rfl | exact .inr rfl))) dgs_nil)))
    (dss_one (ds_if (dt_cmp op_notIn_sign os_notinsign (de_v 2 (pv 2)) (de_glob (v := .str "bfsn") (p := .str "bfsn") (pe_con (by rfl) T.kc_FATES) (fun _ => rfl)) (by rfl))
    (dss_one (ds_err (fun h => ps_raise rfl (takes_of rfl rfl rfl rfl) (pmk_oex R_BadFate.t.ox R_BadFate.t.ini R_BadFate.t.fn R_BadFate.ok (hr.mono (by decide)) R_BadFate.b .nil pass0 (by rfl) R_BadFate.t.mg h)) hE R_BadFate.t.ox R_BadFate.t.no (da_cons (de_v 1 (pv 1)) da_nil)))
    dss_nil)))), fun ds QD h => ?_, fun ds h => ?_⟩)
  · first
      | (obtain ⟨rfl, _⟩ := h; exact ⟨rfl, rfl⟩)
      | (obtain ⟨_, rfl, _⟩ := h; exact ⟨rfl, rfl⟩)
      | (obtain ⟨_, _, rfl, _⟩ := h; exact ⟨rfl, rfl⟩)
      | (obtain ⟨_, _, _, rfl, _⟩ := h; exact ⟨rfl, rfl⟩)
      | (obtain ⟨_, _, _, _, rfl, _⟩ := h; exact ⟨rfl, rfl⟩)
      | (obtain ⟨_, _, _, _, _, rfl, _⟩ := h; exact ⟨rfl, rfl⟩)
      | (obtain ⟨_, _, _, _, _, _, rfl, _⟩ := h; exact ⟨rfl, rfl⟩)
      | (obtain ⟨_, _, _, _, _, _, _, rfl, _⟩ := h; exact ⟨rfl, rfl⟩)
      | (obtain ⟨_, _, _, _, _, _, _, _, rfl, _⟩ := h; exact ⟨rfl, rfl⟩)
      | (obtain ⟨_, _, _, _, _, _, _, _, _, rfl, _⟩ := h; exact ⟨rfl, rfl⟩)
      | (obtain ⟨_, _, _, _, _, _, _, _, _, _, rfl, _⟩ := h; exact ⟨rfl, rfl⟩)
      | (obtain ⟨_, _, _, _, _, _, _, _, _, _, _, rfl, _⟩ := h; exact ⟨rfl, rfl⟩)
  · first
      | (obtain ⟨rfl, _⟩ := h; rfl)
      | (obtain ⟨_, rfl, _⟩ := h; rfl)
      | (obtain ⟨_, _, rfl, _⟩ := h; rfl)
      | (obtain ⟨_, _, _, rfl, _⟩ := h; rfl)
      | (obtain ⟨_, _, _, _, rfl, _⟩ := h; rfl)
      | (obtain ⟨_, _, _, _, _, rfl, _⟩ := h; rfl)
      | (obtain ⟨_, _, _, _, _, _, rfl, _⟩ := h; rfl)
      | (obtain ⟨_, _, _, _, _, _, _, rfl, _⟩ := h; rfl)
      | (obtain ⟨_, _, _, _, _, _, _, _, rfl, _⟩ := h; rfl)
      | (obtain ⟨_, _, _, _, _, _, _, _, _, rfl, _⟩ := h; rfl)
      | (obtain ⟨_, _, _, _, _, _, _, _, _, _, rfl, _⟩ := h; rfl)
      | (obtain ⟨_, _, _, _, _, _, _, _, _, _, _, rfl, _⟩ := h; rfl)
      | exact h.elim
  · obtain ⟨l, rfl, hl, q⟩ := h
    walk_at "ax"
    refine ⟨fun i e => ∃ u1 u2 : Option D, e = [some (.sh (.str (mkS l))), u1, u2], ⟨none, none, rfl⟩, fun i x e hp hI => ?_, fun e hI => ?_⟩
    · obtain ⟨u1, u2, rfl⟩ := hI
      obtain ⟨p, hp1, rfl⟩ := enumP_get hp
      obtain ⟨c, hc1, rfl⟩ := map_get hp1
      have hcf := hl c (List.mem_of_getElem? hc1)
      walk_at "ax"
      refine ⟨c, rfl, ?_⟩
      rw [fates_cps]
      walk_at "ax"
      · first | (rename_i hc; exact absurd hcf (mem_nt hc rfl)) | (rename_i hc _; exact absurd hcf (mem_nt hc rfl)) | (rename_i hc; exact absurd (mem_nf hc rfl) hcf) | (rename_i hc _; exact absurd (mem_nf hc rfl) hcf)
      exact ⟨_, _, rfl⟩
    · obtain ⟨u1, u2, rfl⟩ := hI
      walk_at "ax"
      exact q
  · obtain ⟨l, i0, c0, rfl, ⟨hb0, hn0, hbf⟩, q⟩ := h
    walk_at "ax"
    refine ⟨fun i e => ∃ u1 u2 : Option D, e = [some (.sh (.str (mkS l))), u1, u2] ∧ i ≤ i0, ⟨none, none, rfl, Nat.zero_le _⟩, fun i x e hp hI => ?_, fun e hI => ?_⟩
    · obtain ⟨u1, u2, rfl, hi⟩ := hI
      obtain ⟨p, hp1, rfl⟩ := enumP_get hp
      obtain ⟨c, hc1, rfl⟩ := map_get hp1
      rcases Nat.lt_or_eq_of_le hi with hlt | rfl
      · have hcf := hbf c (List.mem_of_getElem? (by rw [List.getElem?_take_of_lt hlt]; exact hc1))
        walk_at "ax"
        refine ⟨c, rfl, ?_⟩
        rw [fates_cps]
        walk_at "ax"
        · first | (rename_i hc; exact absurd hcf (mem_nt hc rfl)) | (rename_i hc _; exact absurd hcf (mem_nt hc rfl)) | (rename_i hc; exact absurd (mem_nf hc rfl) hcf) | (rename_i hc _; exact absurd (mem_nf hc rfl) hcf)
        exact ⟨_, _, rfl, hlt⟩
      · have e0 : some c = some c0 := hc1.symm.trans hb0
        cases e0
        walk_at "ax"
        refine ⟨c0, rfl, ?_⟩
        rw [fates_cps]
        walk_at "ax"
        · rw [Nat.zero_add]
          exact q
        · first | (rename_i hc; exact absurd hn0 (mem_nt hc rfl)) | (rename_i hc _; exact absurd hn0 (mem_nt hc rfl)) | (rename_i hc; exact absurd (mem_nf hc rfl) hn0) | (rename_i hc _; exact absurd (mem_nf hc rfl) hn0)
    · obtain ⟨u1, u2, rfl, hi⟩ := hI
      have := lt_of_get hb0
      rw [enumP_len, List.length_map] at hi
      have e : (mkS l).cps.toList.length = l.length := rfl
      omega
/-! ### _law_other -/
abbrev s__law_other : Stmt := topS 19
theorem sc__law_other : FnScope ["one", "draws", "place", "kind", "fate", "fates", "at"] ["one", "draws", "place"] (defScope s__law_other) := ⟨rfl, rfl, rfl, by decide +kernel, rfl, by decide +kernel, by decide +kernel⟩
theorem FateOk.take {l : List Nat} (h : FateOk l) (t : Nat) : FateOk (l.take t) := fun c hc => h c (List.mem_of_mem_take hc)
theorem FateOk.drop {l : List Nat} (h : FateOk l) (t : Nat) : FateOk (l.drop t) := fun c hc => h c (List.mem_of_mem_drop hc)
theorem FateOk.app {l m : List Nat} (h : FateOk l) (g : FateOk m) : FateOk (l ++ m) := fun c hc => (List.mem_append.mp hc).elim (h c) (g c)
theorem FateOk.one {c : Nat} (h : c ∈ fateL) : FateOk [c] := fun d hd => by rw [List.mem_singleton.mp hd]; exact h
def fs__law_other (cExchange cHouseError cBadBit cBadEnd cBadFate cENDS cARRIVING : Addr) : FSp := fun ds Q => ∃ (a b : Int) (l : List Nat) (rs : List Int) (k : Nat), ds = [.sh (exT a b l), .sh (.lst (pI rs)), .ol [.int (k : Int)]] ∧ (bitOk a ∧ bitOk b ∧ l.length ≤ 60 ∧ FateOk l) ∧ ∀ (c d : Int) (m : List Nat) (k' : Nat), bitOk c → bitOk d → m.length ≤ 60 → FateOk m → Q (.sh (exT c d m)) [.sh (exT a b l), .sh (.lst (pI rs)), .ol [.int (k' : Int)]]
theorem ok__law_other {Pg : Program} {w : World} {K : PySem.W.Frag} {mg : Str → Option Value} {base : Heap} {a : Addr} {fd : FuncData} (F : L2.Fun K "_law_other" "_law_other" s__law_other a fd)
    (m_int : mg "int" = none)
    (m_len : mg "len" = none)
    {cExchange cHouseError cBadBit cBadEnd cBadFate cENDS cARRIVING : Addr} (T : Txt K mg cExchange cHouseError cBadBit cBadEnd cBadFate cENDS cARRIVING)
    {a__law_take : Addr} {d__law_take : FuncData} (C__law_take : Callee Pg w K mg base 1 "_law_take" a__law_take d__law_take ["draws", "place"] (fs__law_take cExchange cHouseError cBadBit cBadEnd cBadFate cENDS cARRIVING))
    {a__law_exchange : Addr} {d__law_exchange : FuncData} (C__law_exchange : Callee Pg w K mg base 2 "_law_exchange" a__law_exchange d__law_exchange ["draws", "place", "most"] (fs__law_exchange cExchange cHouseError cBadBit cBadEnd cBadFate cENDS cARRIVING)) :
    FnOk Pg w K mg base CX0 3 a fd ["one", "draws", "place"] (spD K (fs__law_other cExchange cHouseError cBadBit cBadEnd cBadFate cENDS cARRIVING)) := by
  have n_Exchange_first_bit : ClsA K cExchange "first_bit" := ⟨T.cl_Exchange, T.n_Exchange_first_bit⟩
  have n_Exchange_second_bit : ClsA K cExchange "second_bit" := ⟨T.cl_Exchange, T.n_Exchange_second_bit⟩
  have n_Exchange_fates : ClsA K cExchange "fates" := ⟨T.cl_Exchange, T.n_Exchange_fates⟩
  have is_Exchange := T.is_Exchange
  refine Fun.okD [2] F sc__law_other (fun ds QD h => ?_) (fun cdv A outer s H E hr => ⟨_, _, (dss_cons (ds_asg (de_op op_mod os_mod (de_cb (fun h => pe_callTy call_int1 (by rfl) m_int (by decide +kernel) h) cs_int (da_cons (de_o (do_call (m := false) (fun h => pe_call C__law_take.ok (hr.mono (by decide)) (by rfl) C__law_take.g C__law_take.kp C__law_take.b .nil pass0 h) (da_cons (de_v 1 (pv 1)) (da_slot (pv 2) da_nil)))) da_nil)) de_int) (dg_name (pg_name (i := 3) sc__law_other.nd rfl (by first | exact .inl rfl | exact .inr rfl))))
    (dss_mid (ds_asg (de_ix ix_seq os_ix de_str (de_op op_mod os_mod (de_cb (fun h => pe_callTy call_int1 (by rfl) m_int (by decide +kernel) h) cs_int (da_cons (de_o (do_call (m := false) (fun h => pe_call C__law_take.ok (hr.mono (by decide)) (by rfl) C__law_take.g C__law_take.kp C__law_take.b .nil pass0 h) (da_cons (de_v 1 (pv 1)) (da_slot (pv 2) da_nil)))) da_nil)) de_int)) (dg_name (pg_name (i := 4) sc__law_other.nd rfl (by first | exact .inl rfl | exact .inr rfl))))
    (dss_cons (ds_asg (de_ix ix_seq os_ix (de_v 0 (pv 0)) de_int) (dg_name (pg_name (i := 5) sc__law_other.nd rfl (by first | exact .inl rfl | exact .inr rfl))))
    (dss_cons (ds_asg (de_op op_mod os_mod (de_cb (fun h => pe_callTy call_int1 (by rfl) m_int (by decide +kernel) h) cs_int (da_cons (de_o (do_call (m := false) (fun h => pe_call C__law_take.ok (hr.mono (by decide)) (by rfl) C__law_take.g C__law_take.kp C__law_take.b .nil pass0 h) (da_cons (de_v 1 (pv 1)) (da_slot (pv 2) da_nil)))) da_nil)) (de_op op_add os_add (de_cb (fun h => pe_callB call_len (by rfl) m_len PySem.boot_len h) cs_len (da_cons (de_v 5 (pv 5)) da_nil)) de_int)) (dg_name (pg_name (i := 6) sc__law_other.nd rfl (by first | exact .inl rfl | exact .inr rfl))))
    (dss_cons (ds_if (dt_cmp op_eq os_eq (de_v 3 (pv 3)) de_int (nomark _))
    (dss_one (ds_ret (de_v 0 (pv 0))))
    dss_nil)
    (dss_cons (ds_if (dt_cmp op_eq os_eq (de_v 3 (pv 3)) de_int (nomark _))
    (dss_one (ds_ret (de_tup (da_cons (de_op op_sub os_sub de_int (de_ix ix_seq os_ix (de_v 0 (pv 0)) de_int)) (da_cons (de_ix ix_seq os_ix (de_v 0 (pv 0)) de_int) (da_cons (de_v 5 (pv 5)) da_nil))))))
    dss_nil)
    (dss_cons (ds_if (dt_cmp op_eq os_eq (de_v 3 (pv 3)) de_int (nomark _))
    (dss_one (ds_ret (de_tup (da_cons (de_ix ix_seq os_ix (de_v 0 (pv 0)) de_int) (da_cons (de_op op_sub os_sub de_int (de_ix ix_seq os_ix (de_v 0 (pv 0)) de_int)) (da_cons (de_v 5 (pv 5)) da_nil))))))
    dss_nil)
    (dss_cons (ds_if (dt_cmp op_eq os_eq (de_v 3 (pv 3)) de_int (nomark _))
    (dss_one (ds_ret (de_tup (da_cons (de_ix ix_seq os_ix (de_v 0 (pv 0)) de_int) (da_cons (de_ix ix_seq os_ix (de_v 0 (pv 0)) de_int) (da_cons (de_slT (de_op op_add_str os_strcat (de_slT (de_v 5 (pv 5)) dpo_none (dpo_some (de_v 6 (pv 6)))) (de_v 4 (pv 4))) dpo_none (dpo_some de_int)) da_nil))))))
    dss_nil)
    (dss_cons (ds_if (dt_cmp op_lt os_lt (de_v 3 (pv 3)) de_int (nomark _))
    (dss_one (ds_ret (de_tup (da_cons (de_ix ix_seq os_ix (de_v 0 (pv 0)) de_int) (da_cons (de_ix ix_seq os_ix (de_v 0 (pv 0)) de_int) (da_cons (de_slT (de_op op_add_str os_strcat (de_op op_add_str os_strcat (de_slT (de_v 5 (pv 5)) dpo_none (dpo_some (de_v 6 (pv 6)))) (de_v 4 (pv 4))) (de_slT (de_v 5 (pv 5)) (dpo_some (de_op op_add os_add (de_v 6 (pv 6)) de_int)) dpo_none)) dpo_none (dpo_some de_int)) da_nil))))))
    dss_nil)
    (dss_cons (ds_if (DW.pt (dw_and (dt_cmp op_eq os_eq (de_v 3 (pv 3)) de_int (nomark _)) (dw_and1 (dt_cmp op_gt os_gt (de_cb (fun h => pe_callB call_len (by rfl) m_len PySem.boot_len h) cs_len (da_cons (de_v 5 (pv 5)) da_nil)) de_int (nomark _)))))
    (dss_one (ds_ret (de_tup (da_cons (de_ix ix_seq os_ix (de_v 0 (pv 0)) de_int) (da_cons (de_ix ix_seq os_ix (de_v 0 (pv 0)) de_int) (da_cons (de_op op_add_str os_strcat (de_slT (de_v 5 (pv 5)) dpo_none (dpo_some (de_un un_neg us_neg de_int))) (de_v 4 (pv 4))) da_nil))))))
    dss_nil)
    (dss_one (ds_ret (de_o (do_call (m := false) (fun h => pe_call C__law_exchange.ok hr (by rfl) C__law_exchange.g C__law_exchange.kp C__law_exchange.b .nil pass0 h) (da_cons (de_v 1 (pv 1)) (da_slot (pv 2) (da_cons de_int da_nil))))))))))))))))), fun ds QD h => ?_⟩)
  · first
      | (obtain ⟨rfl, _⟩ := h; exact ⟨rfl, rfl⟩)
      | (obtain ⟨_, rfl, _⟩ := h; exact ⟨rfl, rfl⟩)
      | (obtain ⟨_, _, rfl, _⟩ := h; exact ⟨rfl, rfl⟩)
      | (obtain ⟨_, _, _, rfl, _⟩ := h; exact ⟨rfl, rfl⟩)
      | (obtain ⟨_, _, _, _, rfl, _⟩ := h; exact ⟨rfl, rfl⟩)
      | (obtain ⟨_, _, _, _, _, rfl, _⟩ := h; exact ⟨rfl, rfl⟩)
      | (obtain ⟨_, _, _, _, _, _, rfl, _⟩ := h; exact ⟨rfl, rfl⟩)
      | (obtain ⟨_, _, _, _, _, _, _, rfl, _⟩ := h; exact ⟨rfl, rfl⟩)
      | (obtain ⟨_, _, _, _, _, _, _, _, rfl, _⟩ := h; exact ⟨rfl, rfl⟩)
      | (obtain ⟨_, _, _, _, _, _, _, _, _, rfl, _⟩ := h; exact ⟨rfl, rfl⟩)
      | (obtain ⟨_, _, _, _, _, _, _, _, _, _, rfl, _⟩ := h; exact ⟨rfl, rfl⟩)
      | (obtain ⟨_, _, _, _, _, _, _, _, _, _, _, rfl, _⟩ := h; exact ⟨rfl, rfl⟩)
  · obtain ⟨a, b, l, rs, k, rfl, ⟨ha, hb, hl, hf⟩, q⟩ := h
    have hz := sizeLine_eq
    have el := mkS_len l
    walk_at "ax"
    refine ⟨rs, k, rfl, ?_⟩
    generalize rs.getD k 0 = w
    walk_at "ax"
    refine ⟨fun e => ∃ c : Nat, e = [some (.sh (exT a b l)), some (.sh (.lst (pI rs))), some (.ol [.int ((k + 2 : Nat) : Int)]), some (.sh (.int (w % 8))), some (.sh (.str (mkS [c]))), none, none] ∧ c ∈ fateL, ?_, ?_⟩
    · walk_at "ax"
      refine ⟨rs, k + 1, rfl, ?_⟩
      generalize rs.getD (k + 1) 0 = w1
      walk_at "ax"
      refine sign_ix (z := Str.ofString "bfsn") (by decide +kernel) _ fun c hc => ?_
      rw [fates_cps] at hc
      walk_at "ax"
      exact ⟨c, rfl, hc⟩
    rintro _ ⟨c, rfl, hc⟩
    unfold exT
    walk_at "ax"
    refine ⟨rs, k + 2, rfl, ?_⟩
    generalize rs.getD (k + 2) 0 = w2
    obtain ⟨t, h1, h2⟩ := md w2 (show (0 : Int) < (l.length : Int) + 1 by omega)
    have e2 := mkS_len [c]
    have e4 : [c].length = 1 := rfl
    have e1 := mkS_len (l.take t)
    have e3 : (l.take t).length ≤ 60 := by rw [List.length_take]; omega
    walk_at "ax"
    · exact q a b l (k + 3) ha hb hl hf
    · exact q (1 - a) b l (k + 3) (by unfold bitOk at ha ⊢; omega) hb hl hf
    · exact q a (1 - b) l (k + 3) ha (by unfold bitOk at hb ⊢; omega) hl hf
    · rw [el, h1, cut_to, app_mk]
      have e5 := mkS_len (l.take t ++ [c])
      rw [List.length_append] at e5
      walk_at "ax"
      rw [show (60 : Int) = ((60 : Nat) : Int) from rfl, cut_to]
      walk_at "ax"
      exact q a b _ (k + 3) ha hb (by rw [List.length_take]; exact Nat.min_le_left _ _) (((hf.take t).app (.one hc)).take 60)
    · rw [el, h1, cut_to, app_mk]
      have e5 := mkS_len (l.take t ++ [c])
      rw [List.length_append] at e5
      walk_at "ax"
      rw [h1, show (t : Int) + 1 = ((t + 1 : Nat) : Int) by omega, cut_from]
      have e6 := mkS_len (l.drop (t + 1))
      rw [List.length_drop] at e6
      walk_at "ax"
      rw [app_mk]
      have e7 := mkS_len (l.take t ++ [c] ++ l.drop (t + 1))
      rw [List.length_append, List.length_append, List.length_drop] at e7
      walk_at "ax"
      rw [show (60 : Int) = ((60 : Nat) : Int) from rfl, cut_to]
      walk_at "ax"
      exact q a b _ (k + 3) ha hb (by rw [List.length_take]; exact Nat.min_le_left _ _) ((((hf.take t).app (.one hc)).app (hf.drop _)).take 60)
    · have e8 := mkS_len (l.take (l.length - 1))
      rw [List.length_take] at e8
      rw [cut_m1]
      walk_at "ax"
      rw [app_mk]
      exact q a b _ (k + 3) ha hb (by rw [List.length_append, List.length_take]; omega) ((hf.take _).app (.one hc))
    all_goals (
      refine ⟨rs, k + 3, 60, rfl, by decide, fun c d m k' g1 g2 g3 g4 => ?_⟩
      walk_at "ax"
      exact q c d m k' g1 g2 g3 g4)
/-! ### _law_is_exchange -/
abbrev s__law_is_exchange : Stmt := topS 26
theorem sc__law_is_exchange : FnScope ["told", "due"] ["told", "due"] (defScope s__law_is_exchange) := ⟨rfl, rfl, rfl, by decide +kernel, rfl, by decide +kernel, by decide +kernel⟩
def fs__law_is_exchange (cExchange cHouseError cBadBit cBadEnd cBadFate cENDS cARRIVING : Addr) : FSp := fun ds Q => ∃ (a b : Int) (l : List Nat), ds = [.sh (exP cExchange a b l), .sh (exT a b l)] ∧ l.length ≤ 1000 ∧ Q (.sh (.bl true)) ds
theorem ok__law_is_exchange {Pg : Program} {w : World} {K : PySem.W.Frag} {mg : Str → Option Value} {base : Heap} {a : Addr} {fd : FuncData} (F : L2.Fun K "_law_is_exchange" "_law_is_exchange" s__law_is_exchange a fd)
    (m_isinstance : mg "isinstance" = none)
    (m_str : mg "str" = none)
    (m_len : mg "len" = none)
    {cExchange cHouseError cBadBit cBadEnd cBadFate cENDS cARRIVING : Addr} (T : Txt K mg cExchange cHouseError cBadBit cBadEnd cBadFate cENDS cARRIVING)
    {a__law_is_number : Addr} {d__law_is_number : FuncData} (C__law_is_number : Callee Pg w K mg base 1 "_law_is_number" a__law_is_number d__law_is_number ["told", "due"] (fs__law_is_number cExchange cHouseError cBadBit cBadEnd cBadFate cENDS cARRIVING))
    {a_Exchange_m___len__ : Addr} {d_Exchange_m___len__ : FuncData} (C_Exchange_m___len__ : CalleeP Pg w K mg base 1 cExchange "__len__" a_Exchange_m___len__ d_Exchange_m___len__ ["self"] (fs_Exchange_m___len__ cExchange cHouseError cBadBit cBadEnd cBadFate cENDS cARRIVING)) :
    FnOk Pg w K mg base CX0 3 a fd ["told", "due"] (spD K (fs__law_is_exchange cExchange cHouseError cBadBit cBadEnd cBadFate cENDS cARRIVING)) := by
  have n_Exchange_first_bit : ClsA K cExchange "first_bit" := ⟨T.cl_Exchange, T.n_Exchange_first_bit⟩
  have n_Exchange_second_bit : ClsA K cExchange "second_bit" := ⟨T.cl_Exchange, T.n_Exchange_second_bit⟩
  have n_Exchange_fates : ClsA K cExchange "fates" := ⟨T.cl_Exchange, T.n_Exchange_fates⟩
  have is_Exchange := T.is_Exchange
  refine Fun.okD [] F sc__law_is_exchange (fun ds QD h => ?_) (fun cdv A outer s H E hr => ⟨_, _, (dss_cons (ds_if (DW.pt (dw_or (dt_not (dt_tru (de_o (do_callP (fun h => pe_call C__law_is_number.ok (hr.mono (by decide)) (by rfl) C__law_is_number.g C__law_is_number.kp C__law_is_number.b .nil pass0 h) (da_cons (de_fld (de_v 0 (pv 0))) (da_cons (de_ix ix_seq os_ix (de_v 1 (pv 1)) de_int) da_nil)))))) (dw_or1 (dt_not (dt_tru (de_o (do_callP (fun h => pe_call C__law_is_number.ok (hr.mono (by decide)) (by rfl) C__law_is_number.g C__law_is_number.kp C__law_is_number.b .nil pass0 h) (da_cons (de_fld (de_v 0 (pv 0))) (da_cons (de_ix ix_seq os_ix (de_v 1 (pv 1)) de_int) da_nil)))))))))
    (dss_one (ds_ret de_bl))
    dss_nil)
    (dss_one (ds_ret (de_and (de_cb (fun h => pe_callB call_isi (by rfl) m_isinstance (by decide +kernel) h) cs_isi (da_cons (de_fld (de_v 0 (pv 0))) (da_cons (de_glob (p := .ty "str") (pe_bltn (v := .ty "str") (u := .type "str") (by rfl) m_str (by decide +kernel) rfl) (fun _ => rfl)) da_nil))) (de_and (de_cmp op_eq os_eq (de_fld (de_v 0 (pv 0))) (de_ix ix_seq os_ix (de_v 1 (pv 1)) de_int) (nomark _)) (de_one (de_cmp op_eq os_eq (de_cb (fun h => pe_callB (LenOwn.call_lenOwn C_Exchange_m___len__.o (C_Exchange_m___len__.ok.raw C_Exchange_m___len__.b .nil) hr pass0) (by rfl) m_len PySem.boot_len h) cs_lenOwn (da_cons (de_v 0 (pv 0)) da_nil)) (de_cb (fun h => pe_callB call_len (by rfl) m_len PySem.boot_len h) cs_len (da_cons (de_ix ix_seq os_ix (de_v 1 (pv 1)) de_int) da_nil)) (nomark _)))))))), fun ds QD h => ?_⟩)
  · first
      | (obtain ⟨rfl, _⟩ := h; exact ⟨rfl, rfl⟩)
      | (obtain ⟨_, rfl, _⟩ := h; exact ⟨rfl, rfl⟩)
      | (obtain ⟨_, _, rfl, _⟩ := h; exact ⟨rfl, rfl⟩)
      | (obtain ⟨_, _, _, rfl, _⟩ := h; exact ⟨rfl, rfl⟩)
      | (obtain ⟨_, _, _, _, rfl, _⟩ := h; exact ⟨rfl, rfl⟩)
      | (obtain ⟨_, _, _, _, _, rfl, _⟩ := h; exact ⟨rfl, rfl⟩)
      | (obtain ⟨_, _, _, _, _, _, rfl, _⟩ := h; exact ⟨rfl, rfl⟩)
      | (obtain ⟨_, _, _, _, _, _, _, rfl, _⟩ := h; exact ⟨rfl, rfl⟩)
      | (obtain ⟨_, _, _, _, _, _, _, _, rfl, _⟩ := h; exact ⟨rfl, rfl⟩)
      | (obtain ⟨_, _, _, _, _, _, _, _, _, rfl, _⟩ := h; exact ⟨rfl, rfl⟩)
      | (obtain ⟨_, _, _, _, _, _, _, _, _, _, rfl, _⟩ := h; exact ⟨rfl, rfl⟩)
      | (obtain ⟨_, _, _, _, _, _, _, _, _, _, _, rfl, _⟩ := h; exact ⟨rfl, rfl⟩)
  · obtain ⟨a, b, l, rfl, hl, q⟩ := h
    have el := mkS_len l
    have hz := sizeLine_eq
    unfold exP exT
    walk_at "ax"
    refine ⟨_, rfl, ?_⟩
    walk_at "ax"
    refine ⟨_, rfl, ?_⟩
    walk_at "ax"
    refine ⟨_, rfl, ?_⟩
    walk_at "ax"
    refine ⟨a, b, l, rfl, hl, ?_⟩
    walk_at "ax"
    · rw [el, decide_eq_true rfl]
      exact q
    · rename_i hc
      exact absurd trivial hc
/-! ### Exchange.__init__ -/
abbrev s_Exchange_m___init__ : Stmt := inClass (topS 12) 0
theorem sc_Exchange_m___init__ : FnScope ["self", "first_bit", "second_bit", "fates"] ["self", "first_bit", "second_bit", "fates"] (defScope s_Exchange_m___init__) := ⟨rfl, rfl, rfl, by decide +kernel, rfl, by decide +kernel, by decide +kernel⟩
def fs_Exchange_m___init__ (cExchange cHouseError cBadBit cBadEnd cBadFate cENDS cARRIVING : Addr) : FSp := fun ds Q => ∃ (a b : Int) (l : List Nat), ds = [.oi cExchange [], .sh (.int a), .sh (.int b), .sh (.str (mkS l))] ∧ (bitOk a ∧ bitOk b ∧ ∀ c ∈ l, c ∈ fateL) ∧ Q (.sh .non) [.oi cExchange [("first_bit", .int a), ("second_bit", .int b), ("fates", .str (mkS l))], .sh (.int a), .sh (.int b), .sh (.str (mkS l))]
def fx_Exchange_m___init__ (cExchange cHouseError cBadBit cBadEnd cBadFate cENDS cARRIVING : Addr) : FXp := fun ds RD => ∃ (a b : Int) (l : List Nat), ds = [.oi cExchange [], .sh (.int a), .sh (.int b), .sh (.str (mkS l))] ∧ ((¬ bitOk a ∧ RD ⟨cBadBit, "bit", .int a⟩) ∨ (bitOk a ∧ ¬ bitOk b ∧ RD ⟨cBadBit, "bit", .int b⟩) ∨ (bitOk a ∧ bitOk b ∧ ∃ i c, (l[i]? = some c ∧ c ∉ fateL ∧ ∀ c ∈ l.take i, c ∈ fateL) ∧ RD ⟨cBadFate, "at", .int (i : Int)⟩))
theorem ok_x_Exchange_m___init__ {Pg : Program} {w : World} {K : PySem.W.Frag} {mg : Str → Option Value} {base : Heap} {a : Addr} {fd : FuncData} (F : L2.Fun K "__init__" "Exchange.__init__" s_Exchange_m___init__ a fd)
    {cExchange cHouseError cBadBit cBadEnd cBadFate cENDS cARRIVING : Addr} (T : Txt K mg cExchange cHouseError cBadBit cBadEnd cBadFate cENDS cARRIVING)
    {a_check_bits : Addr} {d_check_bits : FuncData} (C_check_bits : Callee Pg w K mg base 3 "check_bits" a_check_bits d_check_bits ["bits"] (fs_check_bits cExchange cHouseError cBadBit cBadEnd cBadFate cENDS cARRIVING))
    {a_check_fates : Addr} {d_check_fates : FuncData} (C_check_fates : Callee Pg w K mg base 3 "check_fates" a_check_fates d_check_fates ["fates"] (fs_check_fates cExchange cHouseError cBadBit cBadEnd cBadFate cENDS cARRIVING))
    (X_check_bits : CalleeFX Pg w K mg base 3 a_check_bits d_check_bits ["bits"] (fs_check_bits cExchange cHouseError cBadBit cBadEnd cBadFate cENDS cARRIVING) (fx_check_bits cExchange cHouseError cBadBit cBadEnd cBadFate cENDS cARRIVING))
    (X_check_fates : CalleeFX Pg w K mg base 3 a_check_fates d_check_fates ["fates"] (fs_check_fates cExchange cHouseError cBadBit cBadEnd cBadFate cENDS cARRIVING) (fx_check_fates cExchange cHouseError cBadBit cBadEnd cBadFate cENDS cARRIVING)) :
    FnOk Pg w K mg base (L2.CX Pg w) 4 a fd ["self", "first_bit", "second_bit", "fates"] (spX K (fs_Exchange_m___init__ cExchange cHouseError cBadBit cBadEnd cBadFate cENDS cARRIVING) (fx_Exchange_m___init__ cExchange cHouseError cBadBit cBadEnd cBadFate cENDS cARRIVING)) := by
  have n_Exchange_first_bit : ClsA K cExchange "first_bit" := ⟨T.cl_Exchange, T.n_Exchange_first_bit⟩
  have n_Exchange_second_bit : ClsA K cExchange "second_bit" := ⟨T.cl_Exchange, T.n_Exchange_second_bit⟩
  have n_Exchange_fates : ClsA K cExchange "fates" := ⟨T.cl_Exchange, T.n_Exchange_fates⟩
  have is_Exchange := T.is_Exchange
  refine Fun.okDX [0] F sc_Exchange_m___init__ (fun ds QD h => ?_) (fun ds RD h => ?_) (fun cdv A outer s H E RD hE hr => ⟨_, _, (dss_cons (ds_drop (de_callX (fun h => pe_callS X_check_bits.ok hr (by rfl) C_check_bits.g C_check_bits.kp C_check_bits.b (fun σ => passAt (takes_of rfl rfl rfl rfl) σ) h) hE (da_cons (de_o (do_lst (da_cons (de_v 1 (pv 1)) (da_cons (de_v 2 (pv 2)) da_nil)))) da_nil)))
    (dss_cons (ds_drop (de_callX (fun h => pe_callS X_check_fates.ok hr (by rfl) C_check_fates.g C_check_fates.kp C_check_fates.b (fun σ => passAt (takes_of rfl rfl rfl rfl) σ) h) hE (da_cons (de_v 3 (pv 3)) da_nil)))
    (dss_cons (ds_setN (pv 0) (de_v 1 (pv 1)))
    (dss_cons (ds_setN (pv 0) (de_v 2 (pv 2)))
    (dss_one (ds_setN (pv 0) (de_v 3 (pv 3)))))))), fun ds QD h => ?_, fun ds h => ?_⟩)
  · first
      | (obtain ⟨rfl, _⟩ := h; exact ⟨rfl, rfl⟩)
      | (obtain ⟨_, rfl, _⟩ := h; exact ⟨rfl, rfl⟩)
      | (obtain ⟨_, _, rfl, _⟩ := h; exact ⟨rfl, rfl⟩)
      | (obtain ⟨_, _, _, rfl, _⟩ := h; exact ⟨rfl, rfl⟩)
      | (obtain ⟨_, _, _, _, rfl, _⟩ := h; exact ⟨rfl, rfl⟩)
      | (obtain ⟨_, _, _, _, _, rfl, _⟩ := h; exact ⟨rfl, rfl⟩)
      | (obtain ⟨_, _, _, _, _, _, rfl, _⟩ := h; exact ⟨rfl, rfl⟩)
      | (obtain ⟨_, _, _, _, _, _, _, rfl, _⟩ := h; exact ⟨rfl, rfl⟩)
      | (obtain ⟨_, _, _, _, _, _, _, _, rfl, _⟩ := h; exact ⟨rfl, rfl⟩)
      | (obtain ⟨_, _, _, _, _, _, _, _, _, rfl, _⟩ := h; exact ⟨rfl, rfl⟩)
      | (obtain ⟨_, _, _, _, _, _, _, _, _, _, rfl, _⟩ := h; exact ⟨rfl, rfl⟩)
      | (obtain ⟨_, _, _, _, _, _, _, _, _, _, _, rfl, _⟩ := h; exact ⟨rfl, rfl⟩)
  · first
      | (obtain ⟨rfl, _⟩ := h; rfl)
      | (obtain ⟨_, rfl, _⟩ := h; rfl)
      | (obtain ⟨_, _, rfl, _⟩ := h; rfl)
      | (obtain ⟨_, _, _, rfl, _⟩ := h; rfl)
      | (obtain ⟨_, _, _, _, rfl, _⟩ := h; rfl)
      | (obtain ⟨_, _, _, _, _, rfl, _⟩ := h; rfl)
      | (obtain ⟨_, _, _, _, _, _, rfl, _⟩ := h; rfl)
      | (obtain ⟨_, _, _, _, _, _, _, rfl, _⟩ := h; rfl)
      | (obtain ⟨_, _, _, _, _, _, _, _, rfl, _⟩ := h; rfl)
      | (obtain ⟨_, _, _, _, _, _, _, _, _, rfl, _⟩ := h; rfl)
      | (obtain ⟨_, _, _, _, _, _, _, _, _, _, rfl, _⟩ := h; rfl)
      | (obtain ⟨_, _, _, _, _, _, _, _, _, _, _, rfl, _⟩ := h; rfl)
      | exact h.elim
  · obtain ⟨a, b, l, rfl, ⟨ha, hb, hl⟩, q⟩ := h
    walk_at "ax"
    refine .inl ⟨[a, b], rfl, fun x hx => ?_, ?_⟩
    · rcases List.mem_cons.mp hx with rfl | hx
      · exact ha
      · rw [List.mem_singleton.mp hx]; exact hb
    walk_at "ax"
    refine .inl ⟨l, rfl, hl, ?_⟩
    walk_at "ax"
    exact q
  · obtain ⟨a, b, l, rfl, q⟩ := h
    walk_at "ax"
    rcases q with ⟨ha, q⟩ | ⟨ha, hb, q⟩ | ⟨ha, hb, i, c, hc, q⟩
    · exact .inr ⟨[a, b], 0, a, rfl, ⟨rfl, ha, fun c hc => (by cases hc)⟩, q⟩
    · exact .inr ⟨[a, b], 1, b, rfl, ⟨rfl, hb, fun c hc => by rw [List.mem_singleton.mp hc]; exact ha⟩, q⟩
    · refine .inl ⟨[a, b], rfl, fun x hx => ?_, ?_⟩
      · rcases List.mem_cons.mp hx with rfl | hx
        · exact ha
        · rw [List.mem_singleton.mp hx]; exact hb
      walk_at "ax"
      exact .inr ⟨l, i, c, rfl, hc, q⟩
/-! ### Exchange.seen -/
abbrev s_Exchange_m_seen : Stmt := inClass (topS 12) 3
theorem sc_Exchange_m_seen : FnScope ["self", "end", "own", "other", "arrived", "at", "fate"] ["self", "end"] (defScope s_Exchange_m_seen) := ⟨rfl, rfl, rfl, by decide +kernel, rfl, by decide +kernel, by decide +kernel⟩
def fs_Exchange_m_seen (cExchange cHouseError cBadBit cBadEnd cBadFate cENDS cARRIVING : Addr) : FSp := fun ds Q => ∃ (a b : Int) (l : List Nat) (e : Str), ds = [.sh (exP cExchange a b l), .sh (.str e)] ∧ (EndS e ∧ l.length ≤ 1000) ∧ Q (.sh (viewP e a b l)) ds
def fx_Exchange_m_seen (cExchange cHouseError cBadBit cBadEnd cBadFate cENDS cARRIVING : Addr) : FXp := fun ds RD => ∃ (a b : Int) (l : List Nat) (e : Str), ds = [.sh (exP cExchange a b l), .sh (.str e)] ∧ ¬ EndS e ∧ RD ⟨cBadEnd, "end", .str e⟩
theorem ok_x_Exchange_m_seen {Pg : Program} {w : World} {K : PySem.W.Frag} {mg : Str → Option Value} {base : Heap} {a : Addr} {fd : FuncData} (F : L2.Fun K "seen" "Exchange.seen" s_Exchange_m_seen a fd)
    (m_enumerate : mg "enumerate" = none)
    (m_len : mg "len" = none)
    {cExchange cHouseError cBadBit cBadEnd cBadFate cENDS cARRIVING : Addr} (T : Txt K mg cExchange cHouseError cBadBit cBadEnd cBadFate cENDS cARRIVING)
    {a_check_end : Addr} {d_check_end : FuncData} (C_check_end : Callee Pg w K mg base 3 "check_end" a_check_end d_check_end ["end"] (fs_check_end cExchange cHouseError cBadBit cBadEnd cBadFate cENDS cARRIVING))
    (D_ARRIVING : KDT K w cARRIVING [("first", "bf"), ("second", "bs")])
    (X_check_end : CalleeFX Pg w K mg base 3 a_check_end d_check_end ["end"] (fs_check_end cExchange cHouseError cBadBit cBadEnd cBadFate cENDS cARRIVING) (fx_check_end cExchange cHouseError cBadBit cBadEnd cBadFate cENDS cARRIVING)) :
    FnOk Pg w K mg base (L2.CX Pg w) 4 a fd ["self", "end"] (spX K (fs_Exchange_m_seen cExchange cHouseError cBadBit cBadEnd cBadFate cENDS cARRIVING) (fx_Exchange_m_seen cExchange cHouseError cBadBit cBadEnd cBadFate cENDS cARRIVING)) := by
  have n_Exchange_first_bit : ClsA K cExchange "first_bit" := ⟨T.cl_Exchange, T.n_Exchange_first_bit⟩
  have n_Exchange_second_bit : ClsA K cExchange "second_bit" := ⟨T.cl_Exchange, T.n_Exchange_second_bit⟩
  have n_Exchange_fates : ClsA K cExchange "fates" := ⟨T.cl_Exchange, T.n_Exchange_fates⟩
  have is_Exchange := T.is_Exchange
  refine Fun.okDX [] F sc_Exchange_m_seen (fun ds QD h => ?_) (fun ds RD h => ?_) (fun cdv A outer s H E RD hE hr => ⟨_, _, (dss_cons (ds_drop (de_callX (fun h => pe_callS X_check_end.ok hr (by rfl) C_check_end.g C_check_end.kp C_check_end.b (fun σ => passAt (takes_of rfl rfl rfl rfl) σ) h) hE (da_cons (de_v 1 (pv 1)) da_nil)))
    (dss_cons (ds_par (i := 2) (j := 3) (fun h => ps_par (i := 2) (j := 3) rfl sc_Exchange_m_seen.nd rfl rfl (by decide) rfl rfl h (by rfl)) (da_cons (de_fld (de_v 0 (pv 0))) (da_cons (de_fld (de_v 0 (pv 0))) da_nil)))
    (dss_mid (ds_if (dt_cmp op_eq os_eq (de_v 1 (pv 1)) de_str (nomark _))
    (dss_one (ds_par (i := 2) (j := 3) (fun h => ps_par (i := 2) (j := 3) rfl sc_Exchange_m_seen.nd rfl rfl (by decide) rfl rfl h (by rfl)) (da_cons (de_v 3 (pv 3)) (da_cons (de_v 2 (pv 2)) da_nil))))
    dss_nil)
    (dss_cons (ds_fz 4 (ds_setLcP (own := [("at", 5), ("fate", 6)]) (i := 4) (n := 7) rfl sc_Exchange_m_seen.nd rfl rfl (sw_true rfl rfl rfl (by decide +kernel)) (by decide) (di_enum (by rfl) m_enumerate (da_cons (de_fld (de_v 0 (pv 0))) da_nil)) (blkOk_by (N := ["self", "end", "own", "other", "arrived", "at", "fate"]) (sc := defScope s_Exchange_m_seen) (own := [("at", 5), ("fate", 6)]) (by decide +kernel)) (fun _ _ _ _ _ => (dg_seq (fun h => pg_tup rfl h) (fun h => pg_unl rfl h) (dgs_cons (dg_name (pg_name (i := 5) sc_Exchange_m_seen.nd rfl (by first | exact .inl rfl | exact .inr rfl))) (dgs_cons (dg_name (pg_name (i := 6) sc_Exchange_m_seen.nd rfl (by first | exact .inl rfl | exact .inr rfl))) dgs_nil)))) (fun _ _ _ _ _ => dts_one (dt_cmp op_in_sign os_insign (de_v 6 (pv 6)) (de_ix ix_kdict (os_kd D_ARRIVING) (de_glob (v := .ref cARRIVING) (p := .ob cARRIVING) (pe_glob (by rfl) T.mg_ARRIVING rfl) (fun _ => rfl)) (de_v 1 (pv 1))) (by rfl))) (fun _ _ _ _ _ => (de_v 5 (pv 5)))))
    (dss_cons (ds_if (dt_not (dt_tru (de_v 4 (pv 4))))
    (dss_one (ds_ret (de_tup (da_cons (de_v 2 (pv 2)) (da_cons de_non (da_cons de_str (da_cons (de_cb (fun h => pe_callB call_len (by rfl) m_len PySem.boot_len h) cs_len (da_cons (de_fld (de_v 0 (pv 0))) da_nil)) da_nil)))))))
    dss_nil)
    (dss_one (ds_ret (de_tup (da_cons (de_v 2 (pv 2)) (da_cons (de_v 3 (pv 3)) (da_cons (de_slT (de_fld (de_v 0 (pv 0))) dpo_none (dpo_some (de_ix ix_seq os_ix (de_v 4 (pv 4)) (de_un un_neg us_neg de_int)))) (da_cons (de_op op_sub os_sub (de_op op_sub os_sub (de_cb (fun h => pe_callB call_len (by rfl) m_len PySem.boot_len h) cs_len (da_cons (de_fld (de_v 0 (pv 0))) da_nil)) (de_ix ix_seq os_ix (de_v 4 (pv 4)) (de_un un_neg us_neg de_int))) de_int) da_nil)))))))))))), fun ds QD h => ?_, fun ds h => ?_⟩)
  · first
      | (obtain ⟨rfl, _⟩ := h; exact ⟨rfl, rfl⟩)
      | (obtain ⟨_, rfl, _⟩ := h; exact ⟨rfl, rfl⟩)
      | (obtain ⟨_, _, rfl, _⟩ := h; exact ⟨rfl, rfl⟩)
      | (obtain ⟨_, _, _, rfl, _⟩ := h; exact ⟨rfl, rfl⟩)
      | (obtain ⟨_, _, _, _, rfl, _⟩ := h; exact ⟨rfl, rfl⟩)
      | (obtain ⟨_, _, _, _, _, rfl, _⟩ := h; exact ⟨rfl, rfl⟩)
      | (obtain ⟨_, _, _, _, _, _, rfl, _⟩ := h; exact ⟨rfl, rfl⟩)
      | (obtain ⟨_, _, _, _, _, _, _, rfl, _⟩ := h; exact ⟨rfl, rfl⟩)
      | (obtain ⟨_, _, _, _, _, _, _, _, rfl, _⟩ := h; exact ⟨rfl, rfl⟩)
      | (obtain ⟨_, _, _, _, _, _, _, _, _, rfl, _⟩ := h; exact ⟨rfl, rfl⟩)
      | (obtain ⟨_, _, _, _, _, _, _, _, _, _, rfl, _⟩ := h; exact ⟨rfl, rfl⟩)
      | (obtain ⟨_, _, _, _, _, _, _, _, _, _, _, rfl, _⟩ := h; exact ⟨rfl, rfl⟩)
  · first
      | (obtain ⟨rfl, _⟩ := h; rfl)
      | (obtain ⟨_, rfl, _⟩ := h; rfl)
      | (obtain ⟨_, _, rfl, _⟩ := h; rfl)
      | (obtain ⟨_, _, _, rfl, _⟩ := h; rfl)
      | (obtain ⟨_, _, _, _, rfl, _⟩ := h; rfl)
      | (obtain ⟨_, _, _, _, _, rfl, _⟩ := h; rfl)
      | (obtain ⟨_, _, _, _, _, _, rfl, _⟩ := h; rfl)
      | (obtain ⟨_, _, _, _, _, _, _, rfl, _⟩ := h; rfl)
      | (obtain ⟨_, _, _, _, _, _, _, _, rfl, _⟩ := h; rfl)
      | (obtain ⟨_, _, _, _, _, _, _, _, _, rfl, _⟩ := h; rfl)
      | (obtain ⟨_, _, _, _, _, _, _, _, _, _, rfl, _⟩ := h; rfl)
      | (obtain ⟨_, _, _, _, _, _, _, _, _, _, _, rfl, _⟩ := h; rfl)
      | exact h.elim
  · obtain ⟨a, b, l, e, rfl, ⟨he, hl⟩, q⟩ := h
    obtain ⟨y, hy1, hy2⟩ := heard_look he
    unfold exP
    walk_at "ax"
    refine .inl ⟨e, rfl, he, ?_⟩
    walk_at "ax"
    refine ⟨fun e' => e' = [some (.sh (exP cExchange a b l)), some (.sh (.str e)), some (.sh (.int (ownB e a b))), some (.sh (.int (othB e a b))), none, none, none], ?_, ?_⟩
    · walk_at "ax"
      · rename_i hc
        unfold ownB othB
        rw [if_pos hc, if_pos hc]
        rfl
      · rename_i hc
        unfold ownB othB
        rw [if_neg hc, if_neg hc]
        rfl
    rintro _ rfl
    unfold exP
    walk_at "ax"
    refine ⟨fun j acc => acc = pN ((List.range j).filter fun i => decide (l.getD i 0 ∈ heard e)), rfl, fun j x acc hp hJ => ?_, fun acc hJ => ?_⟩
    · subst hJ
      obtain ⟨p, hp1, rfl⟩ := enumP_get hp
      obtain ⟨c, hc1, rfl⟩ := map_get hp1
      have hjl : j < l.length := lt_of_get hc1
      have ec : l.getD j 0 = c := by rw [List.getD_eq_getElem?_getD, show l[j]? = some c from hc1]; rfl
      have ea : (pN ((List.range j).filter fun i => decide (l.getD i 0 ∈ heard e))).length ≤ j := by
        rw [pN_len]
        exact Nat.le_trans (List.length_filter_le _ _) (by rw [List.length_range]; exact Nat.le_refl _)
      walk_at "ax"
      refine ⟨y, hy1, ?_⟩
      refine ⟨c, rfl, ?_⟩
      rw [hy2]
      by_cases hcm : c ∈ heard e
      · rw [decide_eq_true hcm]
        walk_at "ax"
        rw [pN_filter, ec, decide_eq_true hcm, if_pos rfl, Nat.zero_add]
      · rw [decide_eq_false hcm]
        walk_at "ax"
        rw [pN_filter, ec, decide_eq_false hcm, if_neg Bool.false_ne_true]
    subst hJ
    rw [enumP_len, List.length_map, mkS_cps]
    have eA : (List.range l.length).filter (fun i => decide (l.getD i 0 ∈ heard e)) = idxs (heard e) l := rfl
    rw [eA]
    have el := mkS_len l
    have hz := sizeLine_eq
    have hlt : ∀ k ∈ idxs (heard e) l, k < l.length := fun k hk => idxs_lt hk
    unfold viewP at q
    generalize idxs (heard e) l = A at q hlt ⊢
    have eAl := pN_len A
    cases hA : A.getLast? with
    | none =>
      rw [hA] at q
      have h0 : A = [] := List.getLast?_eq_none_iff.mp hA
      subst h0
      walk_at "ax"
      rw [emp_eq, el]
      exact q
    | some k =>
      rw [hA] at q
      have hk := hlt k (List.mem_of_getLast? hA)
      have hpos : 0 < A.length := List.length_pos_of_mem (List.mem_of_getLast? hA)
      have e1 := atI_last hA
      walk_at "ax"
      · rename_i hc
        rw [List.isEmpty_iff.mp hc] at eAl
        have h9 : 0 = A.length := eAl
        omega
      refine ⟨_, e1, ?_⟩
      walk_at "ax"
      rw [cut_to]
      refine ⟨_, e1, ?_⟩
      walk_at "ax"
      rw [el]
      exact q
  · obtain ⟨a, b, l, e, rfl, he, q⟩ := h
    unfold exP
    walk_at "ax"
    exact .inr ⟨e, rfl, he, q⟩
/-! ### alike -/
abbrev s_alike : Stmt := topS 13
theorem sc_alike : FnScope ["one", "other", "to"] ["one", "other", "to"] (defScope s_alike) := ⟨rfl, rfl, rfl, by decide +kernel, rfl, by decide +kernel, by decide +kernel⟩
def fs_alike (cExchange cHouseError cBadBit cBadEnd cBadFate cENDS cARRIVING : Addr) : FSp := fun ds Q => ∃ (a b : Int) (l : List Nat) (c d : Int) (m : List Nat) (e : Str), ds = [.sh (exP cExchange a b l), .sh (exP cExchange c d m), .sh (.str e)] ∧ (EndS e ∧ (l.length ≤ 1000 ∧ ∀ c ∈ l, c ∈ fateL) ∧ (m.length ≤ 1000 ∧ ∀ c ∈ m, c ∈ fateL)) ∧ Q (.sh (.bl (PyData.eqv (viewP e a b l).toD (viewP e c d m).toD))) ds
def fx_alike (cExchange cHouseError cBadBit cBadEnd cBadFate cENDS cARRIVING : Addr) : FXp := fun ds RD => ∃ (a b : Int) (l : List Nat) (c d : Int) (m : List Nat) (e : Str), ds = [.sh (exP cExchange a b l), .sh (exP cExchange c d m), .sh (.str e)] ∧ ¬ EndS e ∧ RD ⟨cBadEnd, "end", .str e⟩
theorem ok_x_alike {Pg : Program} {w : World} {K : PySem.W.Frag} {mg : Str → Option Value} {base : Heap} {a : Addr} {fd : FuncData} (F : L2.Fun K "alike" "alike" s_alike a fd)
    {cExchange cHouseError cBadBit cBadEnd cBadFate cENDS cARRIVING : Addr} (T : Txt K mg cExchange cHouseError cBadBit cBadEnd cBadFate cENDS cARRIVING)
    {a_Exchange_m_seen : Addr} {d_Exchange_m_seen : FuncData} (C_Exchange_m_seen : CalleeM Pg w K mg base 4 cExchange "seen" a_Exchange_m_seen d_Exchange_m_seen ["self", "end"] (fs_Exchange_m_seen cExchange cHouseError cBadBit cBadEnd cBadFate cENDS cARRIVING))
    (X_Exchange_m_seen : CalleeFX Pg w K mg base 4 a_Exchange_m_seen d_Exchange_m_seen ["self", "end"] (fs_Exchange_m_seen cExchange cHouseError cBadBit cBadEnd cBadFate cENDS cARRIVING) (fx_Exchange_m_seen cExchange cHouseError cBadBit cBadEnd cBadFate cENDS cARRIVING)) :
    FnOk Pg w K mg base (L2.CX Pg w) 5 a fd ["one", "other", "to"] (spX K (fs_alike cExchange cHouseError cBadBit cBadEnd cBadFate cENDS cARRIVING) (fx_alike cExchange cHouseError cBadBit cBadEnd cBadFate cENDS cARRIVING)) := by
  have n_Exchange_first_bit : ClsA K cExchange "first_bit" := ⟨T.cl_Exchange, T.n_Exchange_first_bit⟩
  have n_Exchange_second_bit : ClsA K cExchange "second_bit" := ⟨T.cl_Exchange, T.n_Exchange_second_bit⟩
  have n_Exchange_fates : ClsA K cExchange "fates" := ⟨T.cl_Exchange, T.n_Exchange_fates⟩
  have is_Exchange := T.is_Exchange
  refine Fun.okDX [] F sc_alike (fun ds QD h => ?_) (fun ds RD h => ?_) (fun cdv A outer s H E RD hE hr => ⟨_, _, (dss_one (ds_ret (de_cmp (op_eqD hr.units) os_eqD (de_methX (fun ho h => ManyAs.pe_methE ho C_Exchange_m_seen.c C_Exchange_m_seen.m X_Exchange_m_seen.ok hr C_Exchange_m_seen.b (fun σ => passAt (takes_of rfl rfl rfl rfl) σ) h) hE (de_v 0 (pv 0)) (da_cons (de_v 2 (pv 2)) da_nil)) (de_methX (fun ho h => ManyAs.pe_methE ho C_Exchange_m_seen.c C_Exchange_m_seen.m X_Exchange_m_seen.ok hr C_Exchange_m_seen.b (fun σ => passAt (takes_of rfl rfl rfl rfl) σ) h) hE (de_v 1 (pv 1)) (da_cons (de_v 2 (pv 2)) da_nil)) (nomark _)))), fun ds QD h => ?_, fun ds h => ?_⟩)
  · first
      | (obtain ⟨rfl, _⟩ := h; exact ⟨rfl, rfl⟩)
      | (obtain ⟨_, rfl, _⟩ := h; exact ⟨rfl, rfl⟩)
      | (obtain ⟨_, _, rfl, _⟩ := h; exact ⟨rfl, rfl⟩)
      | (obtain ⟨_, _, _, rfl, _⟩ := h; exact ⟨rfl, rfl⟩)
      | (obtain ⟨_, _, _, _, rfl, _⟩ := h; exact ⟨rfl, rfl⟩)
      | (obtain ⟨_, _, _, _, _, rfl, _⟩ := h; exact ⟨rfl, rfl⟩)
      | (obtain ⟨_, _, _, _, _, _, rfl, _⟩ := h; exact ⟨rfl, rfl⟩)
      | (obtain ⟨_, _, _, _, _, _, _, rfl, _⟩ := h; exact ⟨rfl, rfl⟩)
      | (obtain ⟨_, _, _, _, _, _, _, _, rfl, _⟩ := h; exact ⟨rfl, rfl⟩)
      | (obtain ⟨_, _, _, _, _, _, _, _, _, rfl, _⟩ := h; exact ⟨rfl, rfl⟩)
      | (obtain ⟨_, _, _, _, _, _, _, _, _, _, rfl, _⟩ := h; exact ⟨rfl, rfl⟩)
      | (obtain ⟨_, _, _, _, _, _, _, _, _, _, _, rfl, _⟩ := h; exact ⟨rfl, rfl⟩)
  · first
      | (obtain ⟨rfl, _⟩ := h; rfl)
      | (obtain ⟨_, rfl, _⟩ := h; rfl)
      | (obtain ⟨_, _, rfl, _⟩ := h; rfl)
      | (obtain ⟨_, _, _, rfl, _⟩ := h; rfl)
      | (obtain ⟨_, _, _, _, rfl, _⟩ := h; rfl)
      | (obtain ⟨_, _, _, _, _, rfl, _⟩ := h; rfl)
      | (obtain ⟨_, _, _, _, _, _, rfl, _⟩ := h; rfl)
      | (obtain ⟨_, _, _, _, _, _, _, rfl, _⟩ := h; rfl)
      | (obtain ⟨_, _, _, _, _, _, _, _, rfl, _⟩ := h; rfl)
      | (obtain ⟨_, _, _, _, _, _, _, _, _, rfl, _⟩ := h; rfl)
      | (obtain ⟨_, _, _, _, _, _, _, _, _, _, rfl, _⟩ := h; rfl)
      | (obtain ⟨_, _, _, _, _, _, _, _, _, _, _, rfl, _⟩ := h; rfl)
      | exact h.elim
  · obtain ⟨a, b, l, c, d, m, e, rfl, ⟨he, ⟨hl, gl⟩, ⟨hm, gm⟩⟩, q⟩ := h
    walk_at "ax"
    refine .inl ⟨a, b, l, e, rfl, ⟨he, hl⟩, ?_⟩
    walk_at "ax"
    refine .inl ⟨c, d, m, e, rfl, ⟨he, hm⟩, ?_⟩
    walk_at "ax"
    refine ⟨(shp_view e a b gl).ok, (shp_view e c d gm).ok, ?_⟩
    walk_at "ax"
    exact q
  · obtain ⟨a, b, l, c, d, m, e, rfl, he, q⟩ := h
    walk_at "ax"
    exact .inr ⟨a, b, l, e, rfl, he, q⟩
/-! ### _law_refusal -/
abbrev s__law_refusal : Stmt := topS 27
theorem sc__law_refusal : FnScope ["first_bit", "second_bit", "fates", "e"] ["first_bit", "second_bit", "fates"] (defScope s__law_refusal) := ⟨rfl, rfl, rfl, by decide +kernel, rfl, by decide +kernel, by decide +kernel⟩
def fs__law_refusal (cExchange cHouseError cBadBit cBadEnd cBadFate cENDS cARRIVING : Addr) : FSp := fun ds Q => ∃ (a b : Int) (l : List Nat) (r : Ref), ds = [.sh (.int a), .sh (.int b), .sh (.str (mkS l))] ∧ RefOk a b l r ∧ Q (.sh (refT r)) ds
theorem ok__law_refusal {Pg : Program} {w : World} {K : PySem.W.Frag} {mg : Str → Option Value} {base : Heap} {a : Addr} {fd : FuncData} (F : L2.Fun K "_law_refusal" "_law_refusal" s__law_refusal a fd)
    (m_isinstance : mg "isinstance" = none)
    {cExchange cHouseError cBadBit cBadEnd cBadFate cENDS cARRIVING : Addr} (T : Txt K mg cExchange cHouseError cBadBit cBadEnd cBadFate cENDS cARRIVING)
    {a_Exchange_m___init__ : Addr} {d_Exchange_m___init__ : FuncData} (C_Exchange_m___init__ : CalleeC Pg w K mg base 4 "Exchange" cExchange a_Exchange_m___init__ d_Exchange_m___init__ ["self", "first_bit", "second_bit", "fates"] (fs_Exchange_m___init__ cExchange cHouseError cBadBit cBadEnd cBadFate cENDS cARRIVING))
    {aE_BadBit : Addr} {dE_BadBit : FuncData} (R_BadBit : CalleeE Pg w K mg base 1 "BadBit" cBadBit aE_BadBit dE_BadBit ["self", "bit"] "bit")
    {aE_BadFate : Addr} {dE_BadFate : FuncData} (R_BadFate : CalleeE Pg w K mg base 1 "BadFate" cBadFate aE_BadFate dE_BadFate ["self", "at"] "at")
    (X_Exchange_m___init__ : CalleeFX Pg w K mg base 4 a_Exchange_m___init__ d_Exchange_m___init__ ["self", "first_bit", "second_bit", "fates"] (fs_Exchange_m___init__ cExchange cHouseError cBadBit cBadEnd cBadFate cENDS cARRIVING) (fx_Exchange_m___init__ cExchange cHouseError cBadBit cBadEnd cBadFate cENDS cARRIVING)) :
    FnOk Pg w K mg base CX0 6 a fd ["first_bit", "second_bit", "fates"] (spD K (fs__law_refusal cExchange cHouseError cBadBit cBadEnd cBadFate cENDS cARRIVING)) := by
  have n_Exchange_first_bit : ClsA K cExchange "first_bit" := ⟨T.cl_Exchange, T.n_Exchange_first_bit⟩
  have n_Exchange_second_bit : ClsA K cExchange "second_bit" := ⟨T.cl_Exchange, T.n_Exchange_second_bit⟩
  have n_Exchange_fates : ClsA K cExchange "fates" := ⟨T.cl_Exchange, T.n_Exchange_fates⟩
  have is_Exchange := T.is_Exchange
  refine Fun.okD [] F sc__law_refusal (fun ds QD h => ?_) (fun cdv A outer s H E hr => ⟨_, _, (dss_cons (by exact ds_tryMEC (HE.no (E := fun _ _ _ => False)) (ClX.cons (i := 3) (by rfl) (by rfl) (by exact ⟨rfl, by decide, .inl T.mg_BadBit⟩) (by decide) (fun a oe cls d pins x dd v r hz hf hv => by letI : Rf := rfX x dd v r; exact (dss_one (ds_ret (de_tup (da_cons de_str (da_cons (de_xe R_BadBit.t.xf R_BadBit.t.no hz hf hv (de_v 3 (pv 3))) (da_cons (de_and (de_isd (fun h => pe_callB (call_isD hz hf) (by rfl) m_isinstance (by decide +kernel) h) (da_cons (de_v 3 (pv 3)) (da_cons (de_glob (v := .ref cHouseError) (p := .ob cHouseError) (pe_glob (by rfl) T.mg_HouseError rfl) (fun _ => rfl)) da_nil))) (de_and (de_not (de_isd (fun h => pe_callB (call_isD hz hf) (by rfl) m_isinstance (by decide +kernel) h) (da_cons (de_v 3 (pv 3)) (da_cons (de_glob (v := .ref cBadFate) (p := .ob cBadFate) (pe_glob (by rfl) T.mg_BadFate rfl) (fun _ => rfl)) da_nil)))) (de_one (de_not (de_isd (fun h => pe_callB (call_isD hz hf) (by rfl) m_isinstance (by decide +kernel) h) (da_cons (de_v 3 (pv 3)) (da_cons (de_glob (v := .ref cBadEnd) (p := .ob cBadEnd) (pe_glob (by rfl) T.mg_BadEnd rfl) (fun _ => rfl)) da_nil))))))) da_nil))))))) (ClX.cons (i := 3) (by rfl) (by rfl) (by exact ⟨rfl, by decide, .inl T.mg_BadFate⟩) (by decide) (fun a oe cls d pins x dd v r hz hf hv => by letI : Rf := rfX x dd v r; exact (dss_one (ds_ret (de_tup (da_cons de_str (da_cons (de_xe R_BadFate.t.xf R_BadFate.t.no hz hf hv (de_v 3 (pv 3))) (da_cons (de_and (de_isd (fun h => pe_callB (call_isD hz hf) (by rfl) m_isinstance (by decide +kernel) h) (da_cons (de_v 3 (pv 3)) (da_cons (de_glob (v := .ref cHouseError) (p := .ob cHouseError) (pe_glob (by rfl) T.mg_HouseError rfl) (fun _ => rfl)) da_nil))) (de_one (de_not (de_isd (fun h => pe_callB (call_isD hz hf) (by rfl) m_isinstance (by decide +kernel) h) (da_cons (de_v 3 (pv 3)) (da_cons (de_glob (v := .ref cBadEnd) (p := .ob cBadEnd) (pe_glob (by rfl) T.mg_BadEnd rfl) (fun _ => rfl)) da_nil)))))) da_nil))))))) ClX.nil)) (da_cons (de_v 0 (pv 0)) (da_cons (de_v 1 (pv 1)) (da_cons (de_v 2 (pv 2)) da_nil))) (fun hcl => ManyAs.try_clauses (by rfl) (by rfl) sc__law_refusal.nd takes0 (fun W pn xe tk _ => pss_one (ps_expr (pe_makeAt C_Exchange_m___init__.m X_Exchange_m___init__.ok hr (by rfl) C_Exchange_m___init__.g C_Exchange_m___init__.b (fun σ => passAt tk σ) (DA.pe (m := true) (da_cons (de_v 0 (pv 0)) (da_cons (de_v 1 (pv 1)) (da_cons (de_v 2 (pv 2)) da_nil))))))) hcl))
    (dss_one (ds_ret (de_tup (da_cons de_str (da_cons de_int (da_cons de_bl da_nil))))))), fun ds QD h => ?_⟩)
  · first
      | (obtain ⟨rfl, _⟩ := h; exact ⟨rfl, rfl⟩)
      | (obtain ⟨_, rfl, _⟩ := h; exact ⟨rfl, rfl⟩)
      | (obtain ⟨_, _, rfl, _⟩ := h; exact ⟨rfl, rfl⟩)
      | (obtain ⟨_, _, _, rfl, _⟩ := h; exact ⟨rfl, rfl⟩)
      | (obtain ⟨_, _, _, _, rfl, _⟩ := h; exact ⟨rfl, rfl⟩)
      | (obtain ⟨_, _, _, _, _, rfl, _⟩ := h; exact ⟨rfl, rfl⟩)
      | (obtain ⟨_, _, _, _, _, _, rfl, _⟩ := h; exact ⟨rfl, rfl⟩)
      | (obtain ⟨_, _, _, _, _, _, _, rfl, _⟩ := h; exact ⟨rfl, rfl⟩)
      | (obtain ⟨_, _, _, _, _, _, _, _, rfl, _⟩ := h; exact ⟨rfl, rfl⟩)
      | (obtain ⟨_, _, _, _, _, _, _, _, _, rfl, _⟩ := h; exact ⟨rfl, rfl⟩)
      | (obtain ⟨_, _, _, _, _, _, _, _, _, _, rfl, _⟩ := h; exact ⟨rfl, rfl⟩)
      | (obtain ⟨_, _, _, _, _, _, _, _, _, _, _, rfl, _⟩ := h; exact ⟨rfl, rfl⟩)
  · obtain ⟨a, b, l, r, rfl, hr, q⟩ := h
    walk_at "ax"
    cases r with
    | ok =>
      refine .inl ⟨a, b, l, rfl, ⟨hr.1.1, hr.1.2, hr.2⟩, ?_⟩
      walk_at "ax"
      exact q
    | bit v =>
      rcases hr with ⟨h1, rfl⟩ | ⟨h1, h2, rfl⟩
      · refine .inr ⟨_, _, _, rfl, .inl ⟨h1, trivial, .inl ⟨T.ex_BadBit_BadBit, rfl, fun a' dd => ?_⟩⟩⟩
        walk_at "ax"
        refine ⟨rfl, rfl, ?_⟩
        walk_at "ax"
        refine ⟨rfl, rfl, rfl, R_BadBit.t.ec, _, _, rfl, T.ki_BadBit_HouseError, ?_⟩
        walk_at "ax"
        refine ⟨rfl, rfl, rfl, R_BadBit.t.ec, _, _, rfl, T.ki_BadBit_BadFate, ?_⟩
        walk_at "ax"
        refine ⟨rfl, rfl, rfl, R_BadBit.t.ec, _, _, rfl, T.ki_BadBit_BadEnd, ?_⟩
        walk_at "ax"
        exact q
      · refine .inr ⟨_, _, _, rfl, .inr (.inl ⟨h1, h2, trivial, .inl ⟨T.ex_BadBit_BadBit, rfl, fun a' dd => ?_⟩⟩)⟩
        walk_at "ax"
        refine ⟨rfl, rfl, ?_⟩
        walk_at "ax"
        refine ⟨rfl, rfl, rfl, R_BadBit.t.ec, _, _, rfl, T.ki_BadBit_HouseError, ?_⟩
        walk_at "ax"
        refine ⟨rfl, rfl, rfl, R_BadBit.t.ec, _, _, rfl, T.ki_BadBit_BadFate, ?_⟩
        walk_at "ax"
        refine ⟨rfl, rfl, rfl, R_BadBit.t.ec, _, _, rfl, T.ki_BadBit_BadEnd, ?_⟩
        walk_at "ax"
        exact q
    | fate i =>
      obtain ⟨⟨ha, hb⟩, c, hc⟩ := hr
      refine .inr ⟨a, b, l, rfl, .inr (.inr ⟨ha, hb, i, c, hc, trivial, .inr ⟨T.ex_BadFate_BadBit, .inl ⟨T.ex_BadFate_BadFate, rfl, fun a dd => ?_⟩⟩⟩)⟩
      walk_at "ax"
      refine ⟨rfl, rfl, ?_⟩
      walk_at "ax"
      refine ⟨rfl, rfl, rfl, R_BadFate.t.ec, _, _, rfl, T.ki_BadFate_HouseError, ?_⟩
      walk_at "ax"
      refine ⟨rfl, rfl, rfl, R_BadFate.t.ec, _, _, rfl, T.ki_BadFate_BadEnd, ?_⟩
      walk_at "ax"
      exact q
/-! ### _law_end_refused -/
abbrev s__law_end_refused : Stmt := topS 29
theorem sc__law_end_refused : FnScope ["one", "other", "end", "door", "e"] ["one", "other", "end", "door"] (defScope s__law_end_refused) := ⟨rfl, rfl, rfl, by decide +kernel, rfl, by decide +kernel, by decide +kernel⟩
def fs__law_end_refused (cExchange cHouseError cBadBit cBadEnd cBadFate cENDS cARRIVING : Addr) : FSp := fun ds Q => ∃ (a b : Int) (l : List Nat) (c d : Int) (m : List Nat) (e : Str) (door : Int), ds = [.sh (exP cExchange a b l), .sh (exP cExchange c d m), .sh (.str e), .sh (.int door)] ∧ ¬ EndS e ∧ Q (.sh (.bl true)) ds
theorem ok__law_end_refused {Pg : Program} {w : World} {K : PySem.W.Frag} {mg : Str → Option Value} {base : Heap} {a : Addr} {fd : FuncData} (F : L2.Fun K "_law_end_refused" "_law_end_refused" s__law_end_refused a fd)
    (m_isinstance : mg "isinstance" = none)
    (m_ValueError : mg "ValueError" = none)
    (m_str : mg "str" = none)
    {cExchange cHouseError cBadBit cBadEnd cBadFate cENDS cARRIVING : Addr} (T : Txt K mg cExchange cHouseError cBadBit cBadEnd cBadFate cENDS cARRIVING)
    {a_Exchange_m_seen : Addr} {d_Exchange_m_seen : FuncData} (C_Exchange_m_seen : CalleeM Pg w K mg base 4 cExchange "seen" a_Exchange_m_seen d_Exchange_m_seen ["self", "end"] (fs_Exchange_m_seen cExchange cHouseError cBadBit cBadEnd cBadFate cENDS cARRIVING))
    {a_alike : Addr} {d_alike : FuncData} (C_alike : CalleeK Pg w K mg base 5 "alike" a_alike d_alike ["one", "other", "to"] ["to"] 2 1 (fs_alike cExchange cHouseError cBadBit cBadEnd cBadFate cENDS cARRIVING))
    {aE_BadEnd : Addr} {dE_BadEnd : FuncData} (R_BadEnd : CalleeE Pg w K mg base 1 "BadEnd" cBadEnd aE_BadEnd dE_BadEnd ["self", "end"] "end")
    (X_Exchange_m_seen : CalleeFX Pg w K mg base 4 a_Exchange_m_seen d_Exchange_m_seen ["self", "end"] (fs_Exchange_m_seen cExchange cHouseError cBadBit cBadEnd cBadFate cENDS cARRIVING) (fx_Exchange_m_seen cExchange cHouseError cBadBit cBadEnd cBadFate cENDS cARRIVING))
    (X_alike : CalleeFX Pg w K mg base 5 a_alike d_alike ["one", "other", "to"] (fs_alike cExchange cHouseError cBadBit cBadEnd cBadFate cENDS cARRIVING) (fx_alike cExchange cHouseError cBadBit cBadEnd cBadFate cENDS cARRIVING)) :
    FnOk Pg w K mg base CX0 6 a fd ["one", "other", "end", "door"] (spD K (fs__law_end_refused cExchange cHouseError cBadBit cBadEnd cBadFate cENDS cARRIVING)) := by
  have n_Exchange_first_bit : ClsA K cExchange "first_bit" := ⟨T.cl_Exchange, T.n_Exchange_first_bit⟩
  have n_Exchange_second_bit : ClsA K cExchange "second_bit" := ⟨T.cl_Exchange, T.n_Exchange_second_bit⟩
  have n_Exchange_fates : ClsA K cExchange "fates" := ⟨T.cl_Exchange, T.n_Exchange_fates⟩
  have is_Exchange := T.is_Exchange
  refine Fun.okD [] F sc__law_end_refused (fun ds QD h => ?_) (fun cdv A outer s H E hr => ⟨_, _, (dss_cons (by exact ds_tryD (i := 4) (HE.no (E := fun _ _ _ => False)) (by decide) (dxs_if (dt_cmp op_eq os_eq (de_v 3 (pv 3)) de_int (nomark _)) (fun pn' xe => DT.pe (m := true) (dt_cmp op_eq os_eq (de_v 3 (pv 3)) de_int (nomark _))) (dxs_exprM (de_v 0 (pv 0)) (da_cons (de_v 2 (pv 2)) da_nil) (fun W pn' xe tk => ps_expr (ManyAs.pe_methE (DE.pe (m := true) (de_v 0 (pv 0))) C_Exchange_m_seen.c C_Exchange_m_seen.m X_Exchange_m_seen.ok (hr.mono (by decide)) C_Exchange_m_seen.b (fun σ => passAt tk σ) (DA.pe (m := true) (da_cons (de_v 2 (pv 2)) da_nil))))) (dxs_exprK (da_cons (de_v 0 (pv 0)) (da_cons (de_v 1 (pv 1)) da_nil)) (dk_cons (de_v 2 (pv 2)) dk_nil) (fun W pn' xe tk => ps_expr (KwE.pe_kwE X_alike.ok hr (by rfl) C_alike.g C_alike.kp C_alike.kb (fun σ => passAt tk σ) (DA.pe (m := true) (da_cons (de_v 0 (pv 0)) (da_cons (de_v 1 (pv 1)) da_nil))) (DK.pe (m := true) (dk_cons (de_v 2 (pv 2)) dk_nil))))))   (fun hb hsu => ps_try_as (i := 4) (by rfl) (by rfl) sc__law_end_refused.nd (by rfl) (by rfl) (by exact ⟨rfl, by decide, .inl T.mg_BadEnd⟩) takes0 hb hsu)   (fun a oe cls d pins x dd v r hz hf hv => by letI : Rf := rfX x dd v r; exact (dss_cons (ds_if (DW.pt (dw_or (dt_not (dt_truW (de_isd (fun h => pe_callB (call_isD hz hf) (by rfl) m_isinstance (by decide +kernel) h) (da_cons (de_v 4 (pv 4)) (da_cons (de_glob (v := .ref cHouseError) (p := .ob cHouseError) (pe_glob (by rfl) T.mg_HouseError rfl) (fun _ => rfl)) da_nil))))) (dw_or (dt_not (dt_truW (de_isd (fun h => pe_callB (call_isD hz hf) (by rfl) m_isinstance (by decide +kernel) h) (da_cons (de_v 4 (pv 4)) (da_cons (de_glob (p := .ty "ValueError") (pe_bltn (v := .ty "ValueError") (u := .type "ValueError") (by rfl) m_ValueError (by decide +kernel) rfl) (fun _ => rfl)) da_nil))))) (dw_or1 (dt_truW (de_isd (fun h => pe_callB (call_isD hz hf) (by rfl) m_isinstance (by decide +kernel) h) (da_cons (de_v 4 (pv 4)) (da_cons (de_glob (v := .ref cBadBit) (p := .ob cBadBit) (pe_glob (by rfl) T.mg_BadBit rfl) (fun _ => rfl)) da_nil))))))))   (dss_one (ds_ret de_bl))   dss_nil)   (dss_one (ds_ret (de_and (de_cb (r := rIsi K) (fun h => pe_callB call_isi (by rfl) m_isinstance (by decide +kernel) h) cs_isi (da_cons (de_xe R_BadEnd.t.xf R_BadEnd.t.no hz hf hv (de_v 4 (pv 4))) (da_cons (de_glob (p := .ty "str") (pe_bltn (v := .ty "str") (u := .type "str") (by rfl) m_str (by decide +kernel) rfl) (fun _ => rfl)) da_nil))) (de_one (de_cmp op_eq os_eq (de_xe R_BadEnd.t.xf R_BadEnd.t.no hz hf hv (de_v 4 (pv 4))) (de_v 2 (pv 2)) (nomark _)))))))))
    (dss_one (ds_ret de_bl))), fun ds QD h => ?_⟩)
  · first
      | (obtain ⟨rfl, _⟩ := h; exact ⟨rfl, rfl⟩)
      | (obtain ⟨_, rfl, _⟩ := h; exact ⟨rfl, rfl⟩)
      | (obtain ⟨_, _, rfl, _⟩ := h; exact ⟨rfl, rfl⟩)
      | (obtain ⟨_, _, _, rfl, _⟩ := h; exact ⟨rfl, rfl⟩)
      | (obtain ⟨_, _, _, _, rfl, _⟩ := h; exact ⟨rfl, rfl⟩)
      | (obtain ⟨_, _, _, _, _, rfl, _⟩ := h; exact ⟨rfl, rfl⟩)
      | (obtain ⟨_, _, _, _, _, _, rfl, _⟩ := h; exact ⟨rfl, rfl⟩)
      | (obtain ⟨_, _, _, _, _, _, _, rfl, _⟩ := h; exact ⟨rfl, rfl⟩)
      | (obtain ⟨_, _, _, _, _, _, _, _, rfl, _⟩ := h; exact ⟨rfl, rfl⟩)
      | (obtain ⟨_, _, _, _, _, _, _, _, _, rfl, _⟩ := h; exact ⟨rfl, rfl⟩)
      | (obtain ⟨_, _, _, _, _, _, _, _, _, _, rfl, _⟩ := h; exact ⟨rfl, rfl⟩)
      | (obtain ⟨_, _, _, _, _, _, _, _, _, _, _, rfl, _⟩ := h; exact ⟨rfl, rfl⟩)
  · obtain ⟨a, b, l, c, d, m, e, door, rfl, he, q⟩ := h
    walk_at "ax"
    · refine .inr ⟨a, b, l, e, rfl, he, trivial, .inl ⟨T.ex_BadEnd_BadEnd, rfl, fun a dd => ?_⟩⟩
      walk_at "ax"
      refine ⟨rfl, rfl, rfl, R_BadEnd.t.ec, _, _, rfl, T.ki_BadEnd_HouseError, ?_⟩
      walk_at "ax"
      refine ⟨rfl, rfl, rfl, R_BadEnd.t.ec, _, _, rfl, T.ki_BadEnd_ValueError, ?_⟩
      walk_at "ax"
      refine ⟨rfl, rfl, rfl, R_BadEnd.t.ec, _, _, rfl, T.ki_BadEnd_BadBit, ?_⟩
      walk_at "ax"
      refine ⟨rfl, rfl, rfl, rfl, rfl, ?_⟩
      walk_at "ax"
      refine ⟨_, rfl, ?_⟩
      walk_at "ax"
      refine ⟨rfl, rfl, rfl, rfl, rfl, ?_⟩
      walk_at "ax"
      rw [decide_eq_true rfl]
      exact q
    · refine .inr ⟨a, b, l, c, d, m, e, rfl, he, trivial, .inl ⟨T.ex_BadEnd_BadEnd, rfl, fun a dd => ?_⟩⟩
      walk_at "ax"
      refine ⟨rfl, rfl, rfl, R_BadEnd.t.ec, _, _, rfl, T.ki_BadEnd_HouseError, ?_⟩
      walk_at "ax"
      refine ⟨rfl, rfl, rfl, R_BadEnd.t.ec, _, _, rfl, T.ki_BadEnd_ValueError, ?_⟩
      walk_at "ax"
      refine ⟨rfl, rfl, rfl, R_BadEnd.t.ec, _, _, rfl, T.ki_BadEnd_BadBit, ?_⟩
      walk_at "ax"
      refine ⟨rfl, rfl, rfl, rfl, rfl, ?_⟩
      walk_at "ax"
      refine ⟨_, rfl, ?_⟩
      walk_at "ax"
      refine ⟨rfl, rfl, rfl, rfl, rfl, ?_⟩
      walk_at "ax"
      rw [decide_eq_true rfl]
      exact q
/-! ### _law_all_seen -/
abbrev s__law_all_seen : Stmt := topS 30
theorem sc__law_all_seen : FnScope ["one", "other", "exchanges", "end", "views", "at", "told"] ["one", "other", "exchanges"] (defScope s__law_all_seen) := ⟨rfl, rfl, rfl, by decide +kernel, rfl, by decide +kernel, by decide +kernel⟩
theorem shp_ex (a b : Int) {l : List Nat} (hl : FateOk l) : Shp (exT a b l) 1 := by
  refine Shp.tup (f := fun p : P => p) (xs := [.int a, .int b, .str (mkS l)]) fun x hx => ?_
  simp only [List.mem_cons, List.not_mem_nil, or_false] at hx
  rcases hx with rfl | rfl | rfl
  · exact shp_int _
  · exact shp_int _
  · exact shp_cps fun c hc => fate_lt (hl c hc)
theorem beqI (i j : Int) : (i == j) = decide (i = j) := rfl
theorem beqS (x y : Str) : (x == y) = decide (x = y) := by
  cases h : decide (x = y) with
  | true => have := of_decide_eq_true h; subst this; exact beq_self_eq_true x
  | false => exact beq_eq_false_iff_ne.mpr (of_decide_eq_false h)
theorem eqv_ex (a b c d : Int) (l m : List Nat) : PyData.eqv (exT a b l).toD (exT c d m).toD = decide (a = c ∧ b = d ∧ l = m) := by
  show PyData.eqv (.tuple [.int a, .int b, .str (mkS l)]) (.tuple [.int c, .int d, .str (mkS m)]) = _
  simp only [PyData.eqv, PyData.eqvAll, beqI, beqS, Bool.and_true]
  rw [Bool.eq_iff_iff]
  simp only [Bool.and_eq_true, decide_eq_true_eq]
  exact ⟨fun h => ⟨h.1, h.2.1, mkS_inj h.2.2⟩, fun h => ⟨h.1, h.2.1, by rw [h.2.2]⟩⟩
theorem dcomm {α : Type} [DecidableEq α] (x y : α) : decide (x = y) = decide (y = x) := decide_eq_decide.mpr ⟨Eq.symm, Eq.symm⟩
def V4 : Int × Option Int × List Nat × Int → PyData
  | (a, none, l, n) => .tuple [.int a, .none, .str (mkS l), .int n]
  | (a, some b, l, n) => .tuple [.int a, .int b, .str (mkS l), .int n]
theorem v4_comm : ∀ x y, PyData.eqv (V4 x) (V4 y) = PyData.eqv (V4 y) (V4 x)
  | (a, none, l, n), (c, none, m, k) => by
    show PyData.eqv (.tuple [.int a, .none, .str (mkS l), .int n]) (.tuple [.int c, .none, .str (mkS m), .int k]) = PyData.eqv (.tuple [.int c, .none, .str (mkS m), .int k]) (.tuple [.int a, .none, .str (mkS l), .int n])
    simp only [PyData.eqv, PyData.eqvAll, beqI, beqS, Bool.and_true]
    rw [dcomm a c, dcomm (mkS l) (mkS m), dcomm n k]
  | (a, none, l, n), (c, some d, m, k) => by
    show PyData.eqv (.tuple [.int a, .none, .str (mkS l), .int n]) (.tuple [.int c, .int d, .str (mkS m), .int k]) = PyData.eqv (.tuple [.int c, .int d, .str (mkS m), .int k]) (.tuple [.int a, .none, .str (mkS l), .int n])
    simp only [PyData.eqv, PyData.eqvAll, Bool.and_true, Bool.false_and, Bool.and_false]
  | (a, some b, l, n), (c, none, m, k) => by
    show PyData.eqv (.tuple [.int a, .int b, .str (mkS l), .int n]) (.tuple [.int c, .none, .str (mkS m), .int k]) = PyData.eqv (.tuple [.int c, .none, .str (mkS m), .int k]) (.tuple [.int a, .int b, .str (mkS l), .int n])
    simp only [PyData.eqv, PyData.eqvAll, Bool.and_true, Bool.false_and, Bool.and_false]
  | (a, some b, l, n), (c, some d, m, k) => by
    show PyData.eqv (.tuple [.int a, .int b, .str (mkS l), .int n]) (.tuple [.int c, .int d, .str (mkS m), .int k]) = PyData.eqv (.tuple [.int c, .int d, .str (mkS m), .int k]) (.tuple [.int a, .int b, .str (mkS l), .int n])
    simp only [PyData.eqv, PyData.eqvAll, beqI, beqS, Bool.and_true]
    rw [dcomm a c, dcomm (mkS l) (mkS m), dcomm n k, dcomm b d]
theorem view_v4 (e : Str) (a b : Int) (l : List Nat) : ∃ x, (viewP e a b l).toD = V4 x := by
  unfold viewP
  split
  · exact ⟨(ownB e a b, none, [], (l.length : Int)), rfl⟩
  · rename_i k _
    exact ⟨(ownB e a b, some (othB e a b), l.take k, (l.length : Int) - (k : Int) - 1), rfl⟩
theorem eqv_view (e : Str) (a b c d : Int) (l m : List Nat) : PyData.eqv (viewP e a b l).toD (viewP e c d m).toD = PyData.eqv (viewP e c d m).toD (viewP e a b l).toD := by
  obtain ⟨x, hx⟩ := view_v4 e a b l
  obtain ⟨y, hy⟩ := view_v4 e c d m
  rw [hx, hy]
  exact v4_comm x y
def fs__law_all_seen (cExchange cHouseError cBadBit cBadEnd cBadFate cENDS cARRIVING : Addr) : FSp := fun ds Q => ∃ (a b : Int) (l : List Nat) (c d : Int) (m : List Nat), ds = [.sh (exT a b l), .sh (exT c d m), .sh (.lst [exP cExchange a b l, exP cExchange c d m])] ∧ ((l.length ≤ 60 ∧ FateOk l) ∧ (m.length ≤ 60 ∧ FateOk m)) ∧ Q (.sh (.bl true)) ds
theorem ok__law_all_seen {Pg : Program} {w : World} {K : PySem.W.Frag} {mg : Str → Option Value} {base : Heap} {a : Addr} {fd : FuncData} (F : L2.Fun K "_law_all_seen" "_law_all_seen" s__law_all_seen a fd)
    (m_range : mg "range" = none)
    (m_isinstance : mg "isinstance" = none)
    (m_bool : mg "bool" = none)
    {cExchange cHouseError cBadBit cBadEnd cBadFate cENDS cARRIVING : Addr} (T : Txt K mg cExchange cHouseError cBadBit cBadEnd cBadFate cENDS cARRIVING)
    {a__law_view : Addr} {d__law_view : FuncData} (C__law_view : Callee Pg w K mg base 1 "_law_view" a__law_view d__law_view ["exchange", "end"] (fs__law_view cExchange cHouseError cBadBit cBadEnd cBadFate cENDS cARRIVING))
    {a__law_is_view : Addr} {d__law_is_view : FuncData} (C__law_is_view : Callee Pg w K mg base 2 "_law_is_view" a__law_is_view d__law_is_view ["told", "due"] (fs__law_is_view cExchange cHouseError cBadBit cBadEnd cBadFate cENDS cARRIVING))
    {a_Exchange_m_seen : Addr} {d_Exchange_m_seen : FuncData} (C_Exchange_m_seen : CalleeM Pg w K mg base 4 cExchange "seen" a_Exchange_m_seen d_Exchange_m_seen ["self", "end"] (fs_Exchange_m_seen cExchange cHouseError cBadBit cBadEnd cBadFate cENDS cARRIVING))
    {a_alike : Addr} {d_alike : FuncData} (C_alike : CalleeK Pg w K mg base 5 "alike" a_alike d_alike ["one", "other", "to"] ["to"] 2 1 (fs_alike cExchange cHouseError cBadBit cBadEnd cBadFate cENDS cARRIVING))
    {a_Exchange_m___eq__ : Addr} {d_Exchange_m___eq__ : FuncData} (C_Exchange_m___eq__ : CalleeP Pg w K mg base 1 cExchange "__eq__" a_Exchange_m___eq__ d_Exchange_m___eq__ ["self", "other"] (fs_Exchange_m___eq__ cExchange cHouseError cBadBit cBadEnd cBadFate cENDS cARRIVING)) :
    FnOk Pg w K mg base CX0 6 a fd ["one", "other", "exchanges"] (spD K (fs__law_all_seen cExchange cHouseError cBadBit cBadEnd cBadFate cENDS cARRIVING)) := by
  have n_Exchange_first_bit : ClsA K cExchange "first_bit" := ⟨T.cl_Exchange, T.n_Exchange_first_bit⟩
  have n_Exchange_second_bit : ClsA K cExchange "second_bit" := ⟨T.cl_Exchange, T.n_Exchange_second_bit⟩
  have n_Exchange_fates : ClsA K cExchange "fates" := ⟨T.cl_Exchange, T.n_Exchange_fates⟩
  have is_Exchange := T.is_Exchange
  refine Fun.okD [] F sc__law_all_seen (fun ds QD h => ?_) (fun cdv A outer s H E hr => ⟨_, _, (dss_cons (ds_for PassesOwn.never rfl (di_seq (de_o (do_lst (da_cons de_str (da_cons de_str da_nil))))) (dg_name (pg_name (i := 3) sc__law_all_seen.nd rfl (by first | exact .inl rfl | exact .inr rfl)))
    (dss_cons (ds_asg (de_o (do_lst (da_cons (de_o (do_callP (fun h => pe_call C__law_view.ok (hr.mono (by decide)) (by rfl) C__law_view.g C__law_view.kp C__law_view.b .nil pass0 h) (da_cons (de_v 0 (pv 0)) (da_cons (de_v 3 (pv 3)) da_nil)))) (da_cons (de_o (do_callP (fun h => pe_call C__law_view.ok (hr.mono (by decide)) (by rfl) C__law_view.g C__law_view.kp C__law_view.b .nil pass0 h) (da_cons (de_v 1 (pv 1)) (da_cons (de_v 3 (pv 3)) da_nil)))) da_nil)))) (dg_name (pg_name (i := 4) sc__law_all_seen.nd rfl (by first | exact .inl rfl | exact .inr rfl))))
    (dss_one (ds_for PassesOwn.never rfl (di_rng1 (fun h => pi_range1 (by rfl) m_range h) (da_cons de_int da_nil)) (dg_name (pg_name (i := 5) sc__law_all_seen.nd rfl (by first | exact .inl rfl | exact .inr rfl)))
    (dss_cons (ds_if (dt_not (dt_tru (de_o (do_callP (fun h => pe_call C__law_is_view.ok (hr.mono (by decide)) (by rfl) C__law_is_view.g C__law_is_view.kp C__law_is_view.b .nil pass0 h) (da_cons (de_meth (fun ho h => pe_meth ho C_Exchange_m_seen.c C_Exchange_m_seen.m C_Exchange_m_seen.ok (hr.mono (by decide)) C_Exchange_m_seen.b .nil pass0 h) (de_ix ix_seq os_ix (de_v 2 (pv 2)) (de_v 5 (pv 5))) (da_cons (de_v 3 (pv 3)) da_nil)) (da_cons (de_ix ix_seq os_ix (de_v 4 (pv 4)) (de_v 5 (pv 5))) da_nil))))))
    (dss_one (ds_ret de_bl))
    dss_nil)
    (dss_cons (ds_asg (de_o (do_callK (fun h hk => pe_callK C_alike.ok hr (by rfl) C_alike.g C_alike.kp C_alike.kb pass0 h hk) (da_cons (de_ix ix_seq os_ix (de_v 2 (pv 2)) (de_v 5 (pv 5))) (da_cons (de_ix ix_seq os_ix (de_v 2 (pv 2)) (de_op op_sub os_sub de_int (de_v 5 (pv 5)))) da_nil)) (dk_cons (de_v 3 (pv 3)) dk_nil))) (dg_name (pg_name (i := 6) sc__law_all_seen.nd rfl (by first | exact .inl rfl | exact .inr rfl))))
    (dss_cons (ds_if (DW.pt (dw_or (dt_not (dt_tru (de_cb (fun h => pe_callB call_isi (by rfl) m_isinstance (by decide +kernel) h) cs_isi (da_cons (de_v 6 (pv 6)) (da_cons (de_glob (p := .ty "bool") (pe_bltn (v := .ty "bool") (u := .type "bool") (by rfl) m_bool (by decide +kernel) rfl) (fun _ => rfl)) da_nil))))) (dw_or1 (dt_cmp (op_neD hr.units) os_neD (de_v 6 (pv 6)) (de_cmp (op_eqD hr.units) os_eqD (de_ix ix_seq os_ix (de_v 4 (pv 4)) de_int) (de_ix ix_seq os_ix (de_v 4 (pv 4)) de_int) (nomark _)) (nomark _)))))
    (dss_one (ds_ret de_bl))
    dss_nil)
    (dss_one (ds_if (DW.pt (dw_or (dt_not (dt_tru (de_o (do_callK (fun h hk => pe_callK C_alike.ok hr (by rfl) C_alike.g C_alike.kp C_alike.kb pass0 h hk) (da_cons (de_ix ix_seq os_ix (de_v 2 (pv 2)) (de_v 5 (pv 5))) (da_cons (de_ix ix_seq os_ix (de_v 2 (pv 2)) (de_v 5 (pv 5))) da_nil)) (dk_cons (de_v 3 (pv 3)) dk_nil))))) (dw_or1 (dt_not (dt_cmp (op_ownE (by intro _ _; rfl) C_Exchange_m___eq__.o (C_Exchange_m___eq__.ok.raw C_Exchange_m___eq__.b .nil) T.nf_Exchange (hr.mono (by decide)) pass0) os_ownB (de_ix ix_seq os_ix (de_v 2 (pv 2)) (de_v 5 (pv 5))) (de_ix ix_seq os_ix (de_v 2 (pv 2)) (de_v 5 (pv 5))) (nomark _))))))
    (dss_one (ds_ret de_bl))
    dss_nil)))))))))
    (dss_one (ds_ret de_bl))), fun ds QD h => ?_⟩)
  · first
      | (obtain ⟨rfl, _⟩ := h; exact ⟨rfl, rfl⟩)
      | (obtain ⟨_, rfl, _⟩ := h; exact ⟨rfl, rfl⟩)
      | (obtain ⟨_, _, rfl, _⟩ := h; exact ⟨rfl, rfl⟩)
      | (obtain ⟨_, _, _, rfl, _⟩ := h; exact ⟨rfl, rfl⟩)
      | (obtain ⟨_, _, _, _, rfl, _⟩ := h; exact ⟨rfl, rfl⟩)
      | (obtain ⟨_, _, _, _, _, rfl, _⟩ := h; exact ⟨rfl, rfl⟩)
      | (obtain ⟨_, _, _, _, _, _, rfl, _⟩ := h; exact ⟨rfl, rfl⟩)
      | (obtain ⟨_, _, _, _, _, _, _, rfl, _⟩ := h; exact ⟨rfl, rfl⟩)
      | (obtain ⟨_, _, _, _, _, _, _, _, rfl, _⟩ := h; exact ⟨rfl, rfl⟩)
      | (obtain ⟨_, _, _, _, _, _, _, _, _, rfl, _⟩ := h; exact ⟨rfl, rfl⟩)
      | (obtain ⟨_, _, _, _, _, _, _, _, _, _, rfl, _⟩ := h; exact ⟨rfl, rfl⟩)
      | (obtain ⟨_, _, _, _, _, _, _, _, _, _, _, rfl, _⟩ := h; exact ⟨rfl, rfl⟩)
  · obtain ⟨a, b, l, c, d, m, rfl, ⟨⟨hl, gl⟩, ⟨hm, gm⟩⟩, q⟩ := h
    walk_at "ax"
    refine ⟨fun i e' => ∃ u3 u4 u5 u6 : Option D, e' = [some (.sh (exT a b l)), some (.sh (exT c d m)), some (.sh (.lst [exP cExchange a b l, exP cExchange c d m])), u3, u4, u5, u6], ⟨none, none, none, none, rfl⟩, fun i x e' hp hI => ?_, fun e' hI => ?_⟩
    · obtain ⟨u3, u4, u5, u6, rfl⟩ := hI
      have hx : ∃ e, x = .str e ∧ EndS e := by
        match i, hp with
        | 0, hp => cases hp; exact ⟨_, rfl, .inl rfl⟩
        | 1, hp => cases hp; exact ⟨_, rfl, .inr rfl⟩
        | i + 2, hp => exact absurd hp (by show ¬ (([] : List P)[i]? = some x); simp)
      obtain ⟨e, rfl, he⟩ := hx
      walk_at "ax"
      refine ⟨a, b, l, e, rfl, ⟨he, by omega⟩, ?_⟩
      walk_at "ax"
      refine ⟨c, d, m, e, rfl, ⟨he, by omega⟩, ?_⟩
      walk_at "ax"
      refine ⟨fun j e' => ∃ u5 u6 : Option D, e' = [some (.sh (exT a b l)), some (.sh (exT c d m)), some (.sh (.lst [exP cExchange a b l, exP cExchange c d m])), some (.sh (.str e)), some (.sh (.lst [viewP e a b l, viewP e c d m])), u5, u6], ⟨u5, u6, rfl⟩, fun j x e' hp hI => ?_, fun e' hI => ?_⟩
      · obtain ⟨u5, u6, rfl⟩ := hI
        obtain ⟨hj, rfl⟩ := rngP_get hp
        match j, hj with
        | 0, _ =>
          walk_at "ax"
          refine ⟨a, b, l, e, rfl, ⟨he, by omega⟩, ?_⟩
          walk_at "ax"
          refine ⟨e, a, b, l, rfl, ?_⟩
          walk_at "ax"
          refine ⟨a, b, l, c, d, m, e, rfl, ⟨he, ⟨by omega, gl⟩, ⟨by omega, gm⟩⟩, ?_⟩
          walk_at "ax"
          refine ⟨_, rfl, ?_⟩
          walk_at "ax"
          refine ⟨(shp_view e a b gl).ok, (shp_view e c d gm).ok, ?_⟩
          walk_at "ax"
          · first | (rename_i hc; exact Bool.noConfusion (hc.symm.trans (shp_bl _).refl)) | (rename_i hc _; exact Bool.noConfusion (hc.symm.trans (shp_bl _).refl))
          refine ⟨a, b, l, a, b, l, e, rfl, ⟨he, ⟨by omega, gl⟩, ⟨by omega, gl⟩⟩, ?_⟩
          rw [(shp_view e a b gl).refl]
          walk_at "ax"
          refine ⟨a, b, l, a, b, l, rfl, ?_⟩
          rw [decide_eq_true ⟨rfl, rfl, rfl⟩]
          walk_at "ax"
          exact ⟨_, _, rfl⟩
        | 1, _ =>
          walk_at "ax"
          refine ⟨c, d, m, e, rfl, ⟨he, by omega⟩, ?_⟩
          walk_at "ax"
          refine ⟨e, c, d, m, rfl, ?_⟩
          walk_at "ax"
          refine ⟨c, d, m, a, b, l, e, rfl, ⟨he, ⟨by omega, gm⟩, ⟨by omega, gl⟩⟩, ?_⟩
          walk_at "ax"
          refine ⟨_, rfl, ?_⟩
          walk_at "ax"
          refine ⟨(shp_view e a b gl).ok, (shp_view e c d gm).ok, ?_⟩
          rw [eqv_view e a b c d l m]
          walk_at "ax"
          · first | (rename_i hc; exact Bool.noConfusion (hc.symm.trans (shp_bl _).refl)) | (rename_i hc _; exact Bool.noConfusion (hc.symm.trans (shp_bl _).refl))
          refine ⟨c, d, m, c, d, m, e, rfl, ⟨he, ⟨by omega, gm⟩, ⟨by omega, gm⟩⟩, ?_⟩
          rw [(shp_view e c d gm).refl]
          walk_at "ax"
          refine ⟨c, d, m, c, d, m, rfl, ?_⟩
          rw [decide_eq_true ⟨rfl, rfl, rfl⟩]
          walk_at "ax"
          exact ⟨_, _, rfl⟩
        | j + 2, hj => exact absurd hj (by have : Int.toNat 2 = 2 := rfl; omega)
      · obtain ⟨u5, u6, rfl⟩ := hI
        exact ⟨_, _, _, _, rfl⟩
    obtain ⟨u3, u4, u5, u6, rfl⟩ := hI
    walk_at "ax"
    exact q
/-! ### law -/
abbrev s_law : Stmt := topS 31
theorem sc_law : FnScope ["script", "place", "one", "other", "exchanges", "draws", "kind", "bits", "fates", "told", "due", "end"] ["script"] (defScope s_law) := ⟨rfl, rfl, rfl, by decide +kernel, rfl, by decide +kernel, by decide +kernel⟩
def fs_law (cExchange cHouseError cBadBit cBadEnd cBadFate cENDS cARRIVING : Addr) : FSp := fun ds Q => ∃ ns : List Int, ds = [.sh (.rol (pI ns))] ∧ ns.length ≤ 63 ∧ ∀ ds', Q (.sh (.bl true)) ds'
theorem ok_law {Pg : Program} {w : World} {K : PySem.W.Frag} {mg : Str → Option Value} {base : Heap} {a : Addr} {fd : FuncData} (F : L2.Fun K "law" "law" s_law a fd)
    (m_int : mg "int" = none)
    {cExchange cHouseError cBadBit cBadEnd cBadFate cENDS cARRIVING : Addr} (T : Txt K mg cExchange cHouseError cBadBit cBadEnd cBadFate cENDS cARRIVING)
    {a__law_exchange : Addr} {d__law_exchange : FuncData} (C__law_exchange : Callee Pg w K mg base 2 "_law_exchange" a__law_exchange d__law_exchange ["draws", "place", "most"] (fs__law_exchange cExchange cHouseError cBadBit cBadEnd cBadFate cENDS cARRIVING))
    {a__law_draws : Addr} {d__law_draws : FuncData} (C__law_draws : Callee Pg w K mg base 1 "_law_draws" a__law_draws d__law_draws ["cell", "many"] (fs__law_draws cExchange cHouseError cBadBit cBadEnd cBadFate cENDS cARRIVING))
    {a__law_cell : Addr} {d__law_cell : FuncData} (C__law_cell : Callee Pg w K mg base 1 "_law_cell" a__law_cell d__law_cell ["script", "k"] (fs__law_cell cExchange cHouseError cBadBit cBadEnd cBadFate cENDS cARRIVING))
    {a__law_other : Addr} {d__law_other : FuncData} (C__law_other : Callee Pg w K mg base 3 "_law_other" a__law_other d__law_other ["one", "draws", "place"] (fs__law_other cExchange cHouseError cBadBit cBadEnd cBadFate cENDS cARRIVING))
    {a_Exchange_m___init__ : Addr} {d_Exchange_m___init__ : FuncData} (C_Exchange_m___init__ : CalleeC Pg w K mg base 4 "Exchange" cExchange a_Exchange_m___init__ d_Exchange_m___init__ ["self", "first_bit", "second_bit", "fates"] (fs_Exchange_m___init__ cExchange cHouseError cBadBit cBadEnd cBadFate cENDS cARRIVING))
    {a__law_is_exchange : Addr} {d__law_is_exchange : FuncData} (C__law_is_exchange : Callee Pg w K mg base 3 "_law_is_exchange" a__law_is_exchange d__law_is_exchange ["told", "due"] (fs__law_is_exchange cExchange cHouseError cBadBit cBadEnd cBadFate cENDS cARRIVING))
    {a_Exchange_m___eq__ : Addr} {d_Exchange_m___eq__ : FuncData} (C_Exchange_m___eq__ : CalleeP Pg w K mg base 1 cExchange "__eq__" a_Exchange_m___eq__ d_Exchange_m___eq__ ["self", "other"] (fs_Exchange_m___eq__ cExchange cHouseError cBadBit cBadEnd cBadFate cENDS cARRIVING))
    {a__law_all_seen : Addr} {d__law_all_seen : FuncData} (C__law_all_seen : Callee Pg w K mg base 6 "_law_all_seen" a__law_all_seen d__law_all_seen ["one", "other", "exchanges"] (fs__law_all_seen cExchange cHouseError cBadBit cBadEnd cBadFate cENDS cARRIVING))
    {a__law_take : Addr} {d__law_take : FuncData} (C__law_take : Callee Pg w K mg base 1 "_law_take" a__law_take d__law_take ["draws", "place"] (fs__law_take cExchange cHouseError cBadBit cBadEnd cBadFate cENDS cARRIVING))
    {a__law_wrong_bit : Addr} {d__law_wrong_bit : FuncData} (C__law_wrong_bit : Callee Pg w K mg base 1 "_law_wrong_bit" a__law_wrong_bit d__law_wrong_bit ["draw"] (fs__law_wrong_bit cExchange cHouseError cBadBit cBadEnd cBadFate cENDS cARRIVING))
    {a__law_spoilt : Addr} {d__law_spoilt : FuncData} (C__law_spoilt : Callee Pg w K mg base 2 "_law_spoilt" a__law_spoilt d__law_spoilt ["fates", "draws", "place"] (fs__law_spoilt cExchange cHouseError cBadBit cBadEnd cBadFate cENDS cARRIVING))
    {a__law_refusal : Addr} {d__law_refusal : FuncData} (C__law_refusal : Callee Pg w K mg base 6 "_law_refusal" a__law_refusal d__law_refusal ["first_bit", "second_bit", "fates"] (fs__law_refusal cExchange cHouseError cBadBit cBadEnd cBadFate cENDS cARRIVING))
    {a__law_due_refusal : Addr} {d__law_due_refusal : FuncData} (C__law_due_refusal : Callee Pg w K mg base 1 "_law_due_refusal" a__law_due_refusal d__law_due_refusal ["first_bit", "second_bit", "fates"] (fs__law_due_refusal cExchange cHouseError cBadBit cBadEnd cBadFate cENDS cARRIVING))
    {a__law_is_number : Addr} {d__law_is_number : FuncData} (C__law_is_number : Callee Pg w K mg base 1 "_law_is_number" a__law_is_number d__law_is_number ["told", "due"] (fs__law_is_number cExchange cHouseError cBadBit cBadEnd cBadFate cENDS cARRIVING))
    {a__law_wrong_end : Addr} {d__law_wrong_end : FuncData} (C__law_wrong_end : Callee Pg w K mg base 1 "_law_wrong_end" a__law_wrong_end d__law_wrong_end ["draw"] (fs__law_wrong_end cExchange cHouseError cBadBit cBadEnd cBadFate cENDS cARRIVING))
    {a__law_end_refused : Addr} {d__law_end_refused : FuncData} (C__law_end_refused : Callee Pg w K mg base 6 "_law_end_refused" a__law_end_refused d__law_end_refused ["one", "other", "end", "door"] (fs__law_end_refused cExchange cHouseError cBadBit cBadEnd cBadFate cENDS cARRIVING)) :
    FnOk Pg w K mg base CX0 7 a fd ["script"] (spD K (fs_law cExchange cHouseError cBadBit cBadEnd cBadFate cENDS cARRIVING)) := by
  have n_Exchange_first_bit : ClsA K cExchange "first_bit" := ⟨T.cl_Exchange, T.n_Exchange_first_bit⟩
  have n_Exchange_second_bit : ClsA K cExchange "second_bit" := ⟨T.cl_Exchange, T.n_Exchange_second_bit⟩
  have n_Exchange_fates : ClsA K cExchange "fates" := ⟨T.cl_Exchange, T.n_Exchange_fates⟩
  have is_Exchange := T.is_Exchange
  refine Fun.okD [] F sc_law (fun ds QD h => ?_) (fun cdv A outer s H E hr => ⟨_, _, (dss_cons (ds_put (do_lst (da_cons de_int da_nil)) (pg_name (i := 1) sc_law.nd rfl (by first | exact .inl rfl | exact .inr rfl)))
    (dss_mid (ds_asg (de_o (do_call (m := false) (fun h => pe_call C__law_exchange.ok (hr.mono (by decide)) (by rfl) C__law_exchange.g C__law_exchange.kp C__law_exchange.b .nil pass0 h) (da_cons (de_o (do_callP (fun h => pe_call C__law_draws.ok (hr.mono (by decide)) (by rfl) C__law_draws.g C__law_draws.kp C__law_draws.b .nil pass0 h) (da_cons (de_o (do_callP (fun h => pe_call C__law_cell.ok (hr.mono (by decide)) (by rfl) C__law_cell.g C__law_cell.kp C__law_cell.b .nil pass0 h) (da_cons (de_v 0 (pv 0)) (da_cons de_int da_nil)))) (da_cons de_int da_nil)))) (da_slot (pv 1) (da_cons de_int da_nil))))) (dg_name (pg_name (i := 2) sc_law.nd rfl (by first | exact .inl rfl | exact .inr rfl))))
    (dss_cons (ds_put (do_lst (da_cons de_int da_nil)) (pg_name (i := 1) sc_law.nd rfl (by first | exact .inl rfl | exact .inr rfl)))
    (dss_mid (ds_asg (de_o (do_call (m := false) (fun h => pe_call C__law_other.ok (hr.mono (by decide)) (by rfl) C__law_other.g C__law_other.kp C__law_other.b .nil pass0 h) (da_cons (de_v 2 (pv 2)) (da_cons (de_o (do_callP (fun h => pe_call C__law_draws.ok (hr.mono (by decide)) (by rfl) C__law_draws.g C__law_draws.kp C__law_draws.b .nil pass0 h) (da_cons (de_o (do_callP (fun h => pe_call C__law_cell.ok (hr.mono (by decide)) (by rfl) C__law_cell.g C__law_cell.kp C__law_cell.b .nil pass0 h) (da_cons (de_v 0 (pv 0)) (da_cons de_int da_nil)))) (da_cons de_int da_nil)))) (da_slot (pv 1) da_nil))))) (dg_name (pg_name (i := 3) sc_law.nd rfl (by first | exact .inl rfl | exact .inr rfl))))
    (dss_mid (ds_asg (de_o (do_lst (da_cons (de_make (fun h => pe_make C_Exchange_m___init__.m C_Exchange_m___init__.ok (hr.mono (by decide)) (by rfl) C_Exchange_m___init__.g C_Exchange_m___init__.b .nil pass0 h) (da_cons (de_ix ix_seq os_ix (de_v 2 (pv 2)) de_int) (da_cons (de_ix ix_seq os_ix (de_v 2 (pv 2)) de_int) (da_cons (de_ix ix_seq os_ix (de_v 2 (pv 2)) de_int) da_nil)))) (da_cons (de_make (fun h => pe_make C_Exchange_m___init__.m C_Exchange_m___init__.ok (hr.mono (by decide)) (by rfl) C_Exchange_m___init__.g C_Exchange_m___init__.b .nil pass0 h) (da_cons (de_ix ix_seq os_ix (de_v 3 (pv 3)) de_int) (da_cons (de_ix ix_seq os_ix (de_v 3 (pv 3)) de_int) (da_cons (de_ix ix_seq os_ix (de_v 3 (pv 3)) de_int) da_nil)))) da_nil)))) (dg_name (pg_name (i := 4) sc_law.nd rfl (by first | exact .inl rfl | exact .inr rfl))))
    (dss_mid (ds_if (DW.pt (dw_or (dt_not (dt_tru (de_o (do_callP (fun h => pe_call C__law_is_exchange.ok (hr.mono (by decide)) (by rfl) C__law_is_exchange.g C__law_is_exchange.kp C__law_is_exchange.b .nil pass0 h) (da_cons (de_ix ix_seq os_ix (de_v 4 (pv 4)) de_int) (da_cons (de_v 2 (pv 2)) da_nil)))))) (dw_or1 (dt_not (dt_tru (de_o (do_callP (fun h => pe_call C__law_is_exchange.ok (hr.mono (by decide)) (by rfl) C__law_is_exchange.g C__law_is_exchange.kp C__law_is_exchange.b .nil pass0 h) (da_cons (de_ix ix_seq os_ix (de_v 4 (pv 4)) de_int) (da_cons (de_v 3 (pv 3)) da_nil)))))))))
    (dss_one (ds_ret de_bl))
    dss_nil)
    (dss_mid (ds_if (DW.pt (dw_or (dt_cmp (op_neD hr.units) os_neD (de_cmp (op_ownE (by intro _ _; rfl) C_Exchange_m___eq__.o (C_Exchange_m___eq__.ok.raw C_Exchange_m___eq__.b .nil) T.nf_Exchange (hr.mono (by decide)) pass0) os_ownB (de_ix ix_seq os_ix (de_v 4 (pv 4)) de_int) (de_ix ix_seq os_ix (de_v 4 (pv 4)) de_int) (nomark _)) (de_cmp (op_eqD hr.units) os_eqD (de_v 2 (pv 2)) (de_v 3 (pv 3)) (nomark _)) (nomark _)) (dw_or1 (dt_cmp (op_neD hr.units) os_neD (de_cmp (op_ownE (by intro _ _; rfl) C_Exchange_m___eq__.o (C_Exchange_m___eq__.ok.raw C_Exchange_m___eq__.b .nil) T.nf_Exchange (hr.mono (by decide)) pass0) os_ownB (de_ix ix_seq os_ix (de_v 4 (pv 4)) de_int) (de_ix ix_seq os_ix (de_v 4 (pv 4)) de_int) (nomark _)) (de_cmp (op_eqD hr.units) os_eqD (de_v 2 (pv 2)) (de_v 3 (pv 3)) (nomark _)) (nomark _)))))
    (dss_one (ds_ret de_bl))
    dss_nil)
    (dss_mid (ds_if (DW.pt (dw_or (dt_not (dt_cmp (op_ownE (by intro _ _; rfl) C_Exchange_m___eq__.o (C_Exchange_m___eq__.ok.raw C_Exchange_m___eq__.b .nil) T.nf_Exchange (hr.mono (by decide)) pass0) os_ownB (de_ix ix_seq os_ix (de_v 4 (pv 4)) de_int) (de_make (fun h => pe_make C_Exchange_m___init__.m C_Exchange_m___init__.ok (hr.mono (by decide)) (by rfl) C_Exchange_m___init__.g C_Exchange_m___init__.b .nil pass0 h) (da_cons (de_ix ix_seq os_ix (de_v 2 (pv 2)) de_int) (da_cons (de_ix ix_seq os_ix (de_v 2 (pv 2)) de_int) (da_cons (de_ix ix_seq os_ix (de_v 2 (pv 2)) de_int) da_nil)))) (nomark _))) (dw_or1 (dt_not (dt_tru (de_o (do_callP (fun h => pe_call C__law_all_seen.ok hr (by rfl) C__law_all_seen.g C__law_all_seen.kp C__law_all_seen.b .nil pass0 h) (da_cons (de_v 2 (pv 2)) (da_cons (de_v 3 (pv 3)) (da_cons (de_v 4 (pv 4)) da_nil))))))))))
    (dss_one (ds_ret de_bl))
    dss_nil)
    (dss_cons (ds_asg (de_o (do_callP (fun h => pe_call C__law_draws.ok (hr.mono (by decide)) (by rfl) C__law_draws.g C__law_draws.kp C__law_draws.b .nil pass0 h) (da_cons (de_o (do_callP (fun h => pe_call C__law_cell.ok (hr.mono (by decide)) (by rfl) C__law_cell.g C__law_cell.kp C__law_cell.b .nil pass0 h) (da_cons (de_v 0 (pv 0)) (da_cons de_int da_nil)))) (da_cons de_int da_nil)))) (dg_name (pg_name (i := 5) sc_law.nd rfl (by first | exact .inl rfl | exact .inr rfl))))
    (dss_cons (ds_put (do_lst (da_cons de_int da_nil)) (pg_name (i := 1) sc_law.nd rfl (by first | exact .inl rfl | exact .inr rfl)))
    (dss_cons (ds_asg (de_o (do_call (m := false) (fun h => pe_call C__law_take.ok (hr.mono (by decide)) (by rfl) C__law_take.g C__law_take.kp C__law_take.b .nil pass0 h) (da_cons (de_v 5 (pv 5)) (da_slot (pv 1) da_nil)))) (dg_name (pg_name (i := 6) sc_law.nd rfl (by first | exact .inl rfl | exact .inr rfl))))
    (dss_cons (ds_put (do_lst (da_cons (de_ix ix_seq os_ix (de_v 2 (pv 2)) de_int) (da_cons (de_ix ix_seq os_ix (de_v 3 (pv 3)) de_int) da_nil))) (pg_name (i := 7) sc_law.nd rfl (by first | exact .inl rfl | exact .inr rfl)))
    (dss_mid (ds_if (DW.pt (dw_or (dt_cmp op_eq os_eq (de_op op_mod os_mod (de_cb (fun h => pe_callTy call_int1 (by rfl) m_int (by decide +kernel) h) cs_int (da_cons (de_v 6 (pv 6)) da_nil)) de_int) de_int (nomark _)) (dw_or1 (dt_cmp op_eq os_eq (de_op op_mod os_mod (de_cb (fun h => pe_callTy call_int1 (by rfl) m_int (by decide +kernel) h) cs_int (da_cons (de_v 6 (pv 6)) da_nil)) de_int) de_int (nomark _)))))
    (dss_one (ds_setI (fun h => pg_sub (pv 7) h set_list) de_int (de_o (do_callP (fun h => pe_call C__law_wrong_bit.ok (hr.mono (by decide)) (by rfl) C__law_wrong_bit.g C__law_wrong_bit.kp C__law_wrong_bit.b .nil pass0 h) (da_cons (de_o (do_call (m := false) (fun h => pe_call C__law_take.ok (hr.mono (by decide)) (by rfl) C__law_take.g C__law_take.kp C__law_take.b .nil pass0 h) (da_cons (de_v 5 (pv 5)) (da_slot (pv 1) da_nil)))) da_nil)))))
    dss_nil)
    (dss_mid (ds_if (DW.pt (dw_or (dt_cmp op_eq os_eq (de_op op_mod os_mod (de_cb (fun h => pe_callTy call_int1 (by rfl) m_int (by decide +kernel) h) cs_int (da_cons (de_v 6 (pv 6)) da_nil)) de_int) de_int (nomark _)) (dw_or1 (dt_cmp op_eq os_eq (de_op op_mod os_mod (de_cb (fun h => pe_callTy call_int1 (by rfl) m_int (by decide +kernel) h) cs_int (da_cons (de_v 6 (pv 6)) da_nil)) de_int) de_int (nomark _)))))
    (dss_one (ds_setI (fun h => pg_sub (pv 7) h set_list) de_int (de_o (do_callP (fun h => pe_call C__law_wrong_bit.ok (hr.mono (by decide)) (by rfl) C__law_wrong_bit.g C__law_wrong_bit.kp C__law_wrong_bit.b .nil pass0 h) (da_cons (de_o (do_call (m := false) (fun h => pe_call C__law_take.ok (hr.mono (by decide)) (by rfl) C__law_take.g C__law_take.kp C__law_take.b .nil pass0 h) (da_cons (de_v 5 (pv 5)) (da_slot (pv 1) da_nil)))) da_nil)))))
    dss_nil)
    (dss_cons (ds_asg (de_ix ix_seq os_ix (de_v 2 (pv 2)) de_int) (dg_name (pg_name (i := 8) sc_law.nd rfl (by first | exact .inl rfl | exact .inr rfl))))
    (dss_mid (ds_if (dt_cmp op_gt os_gt (de_op op_mod os_mod (de_cb (fun h => pe_callTy call_int1 (by rfl) m_int (by decide +kernel) h) cs_int (da_cons (de_op op_fdivW os_div (de_v 6 (pv 6)) de_int) da_nil)) de_int) de_int (nomark _))
    (dss_one (ds_asg (de_o (do_call (m := false) (fun h => pe_call C__law_spoilt.ok (hr.mono (by decide)) (by rfl) C__law_spoilt.g C__law_spoilt.kp C__law_spoilt.b .nil pass0 h) (da_cons (de_v 8 (pv 8)) (da_cons (de_v 5 (pv 5)) (da_slot (pv 1) da_nil))))) (dg_name (pg_name (i := 8) sc_law.nd rfl (by first | exact .inl rfl | exact .inr rfl)))))
    dss_nil)
    (dss_cons (ds_asg (de_o (do_callP (fun h => pe_call C__law_refusal.ok hr (by rfl) C__law_refusal.g C__law_refusal.kp C__law_refusal.b .nil pass0 h) (da_cons (de_itm 7 (fun h => pe_ix ix_list (pv 7) h (fun _ _ => rfl)) de_int) (da_cons (de_itm 7 (fun h => pe_ix ix_list (pv 7) h (fun _ _ => rfl)) de_int) (da_cons (de_v 8 (pv 8)) da_nil))))) (dg_name (pg_name (i := 9) sc_law.nd rfl (by first | exact .inl rfl | exact .inr rfl))))
    (dss_mid (ds_asg (de_o (do_callP (fun h => pe_call C__law_due_refusal.ok (hr.mono (by decide)) (by rfl) C__law_due_refusal.g C__law_due_refusal.kp C__law_due_refusal.b .nil pass0 h) (da_cons (de_itm 7 (fun h => pe_ix ix_list (pv 7) h (fun _ _ => rfl)) de_int) (da_cons (de_itm 7 (fun h => pe_ix ix_list (pv 7) h (fun _ _ => rfl)) de_int) (da_cons (de_v 8 (pv 8)) da_nil))))) (dg_name (pg_name (i := 10) sc_law.nd rfl (by first | exact .inl rfl | exact .inr rfl))))
    (dss_mid (ds_if (DW.pt (dw_or (dt_cmp op_ne os_ne (de_ix ix_seq os_ix (de_v 9 (pv 9)) de_int) (de_ix ix_seq os_ix (de_v 10 (pv 10)) de_int) (nomark _)) (dw_or (dt_not (dt_tru (de_o (do_callP (fun h => pe_call C__law_is_number.ok (hr.mono (by decide)) (by rfl) C__law_is_number.g C__law_is_number.kp C__law_is_number.b .nil pass0 h) (da_cons (de_ix ix_seq os_ix (de_v 9 (pv 9)) de_int) (da_cons (de_ix ix_seq os_ix (de_v 10 (pv 10)) de_int) da_nil)))))) (dw_or1 (dt_not (dt_tru (de_ix ix_seq os_ix (de_v 9 (pv 9)) de_int)))))))
    (dss_one (ds_ret de_bl))
    dss_nil)
    (dss_mid (ds_asg (de_o (do_callP (fun h => pe_call C__law_wrong_end.ok (hr.mono (by decide)) (by rfl) C__law_wrong_end.g C__law_wrong_end.kp C__law_wrong_end.b .nil pass0 h) (da_cons (de_o (do_call (m := false) (fun h => pe_call C__law_take.ok (hr.mono (by decide)) (by rfl) C__law_take.g C__law_take.kp C__law_take.b .nil pass0 h) (da_cons (de_v 5 (pv 5)) (da_slot (pv 1) da_nil)))) da_nil))) (dg_name (pg_name (i := 11) sc_law.nd rfl (by first | exact .inl rfl | exact .inr rfl))))
    (dss_mid (ds_if (dt_not (dt_tru (de_o (do_callP (fun h => pe_call C__law_end_refused.ok hr (by rfl) C__law_end_refused.g C__law_end_refused.kp C__law_end_refused.b .nil pass0 h) (da_cons (de_ix ix_seq os_ix (de_v 4 (pv 4)) de_int) (da_cons (de_ix ix_seq os_ix (de_v 4 (pv 4)) de_int) (da_cons (de_v 11 (pv 11)) (da_cons (de_op op_mod os_mod (de_cb (fun h => pe_callTy call_int1 (by rfl) m_int (by decide +kernel) h) cs_int (da_cons (de_o (do_call (m := false) (fun h => pe_call C__law_take.ok (hr.mono (by decide)) (by rfl) C__law_take.g C__law_take.kp C__law_take.b .nil pass0 h) (da_cons (de_v 5 (pv 5)) (da_slot (pv 1) da_nil)))) da_nil)) de_int) da_nil))))))))
    (dss_one (ds_ret de_bl))
    dss_nil)
    (dss_one (ds_ret (de_and (de_o (do_callP (fun h => pe_call C__law_is_exchange.ok (hr.mono (by decide)) (by rfl) C__law_is_exchange.g C__law_is_exchange.kp C__law_is_exchange.b .nil pass0 h) (da_cons (de_ix ix_seq os_ix (de_v 4 (pv 4)) de_int) (da_cons (de_v 2 (pv 2)) da_nil)))) (de_one (de_o (do_callP (fun h => pe_call C__law_all_seen.ok hr (by rfl) C__law_all_seen.g C__law_all_seen.kp C__law_all_seen.b .nil pass0 h) (da_cons (de_v 2 (pv 2)) (da_cons (de_v 3 (pv 3)) (da_cons (de_v 4 (pv 4)) da_nil)))))))))))))))))))))))))))))), fun ds QD h => ?_⟩)
  · first
      | (obtain ⟨rfl, _⟩ := h; exact ⟨rfl, rfl⟩)
      | (obtain ⟨_, rfl, _⟩ := h; exact ⟨rfl, rfl⟩)
      | (obtain ⟨_, _, rfl, _⟩ := h; exact ⟨rfl, rfl⟩)
      | (obtain ⟨_, _, _, rfl, _⟩ := h; exact ⟨rfl, rfl⟩)
      | (obtain ⟨_, _, _, _, rfl, _⟩ := h; exact ⟨rfl, rfl⟩)
      | (obtain ⟨_, _, _, _, _, rfl, _⟩ := h; exact ⟨rfl, rfl⟩)
      | (obtain ⟨_, _, _, _, _, _, rfl, _⟩ := h; exact ⟨rfl, rfl⟩)
      | (obtain ⟨_, _, _, _, _, _, _, rfl, _⟩ := h; exact ⟨rfl, rfl⟩)
      | (obtain ⟨_, _, _, _, _, _, _, _, rfl, _⟩ := h; exact ⟨rfl, rfl⟩)
      | (obtain ⟨_, _, _, _, _, _, _, _, _, rfl, _⟩ := h; exact ⟨rfl, rfl⟩)
      | (obtain ⟨_, _, _, _, _, _, _, _, _, _, rfl, _⟩ := h; exact ⟨rfl, rfl⟩)
      | (obtain ⟨_, _, _, _, _, _, _, _, _, _, _, rfl, _⟩ := h; exact ⟨rfl, rfl⟩)
  · obtain ⟨ns, rfl, hnl, q⟩ := h
    walk_at "ax"
    refine ⟨fun e => ∃ (k : Nat) (a b : Int) (l : List Nat), e = [some (.sh (.rol (pI ns))), some (.ol [.int (k : Int)]), some (.sh (exT a b l)), none, none, none, none, none, none, none, none, none] ∧ bitOk a ∧ bitOk b ∧ l.length ≤ 60 ∧ FateOk l, ?_, ?_⟩
    · walk_at "ax"
      refine ⟨ns, 0, rfl, ?_⟩
      walk_at "ax"
      refine ⟨_, 64, rfl, by decide, ?_⟩
      walk_at "ax"
      refine ⟨_, 0, 60, rfl, by decide, fun a b l k' h1 h2 h3 h4 => ?_⟩
      walk_at "ax"
      exact ⟨k', a, b, l, rfl, h1, h2, h3, h4⟩
    rintro _ ⟨k, a, b, l, rfl, ha, hb, hl, gl⟩
    walk_at "ax"
    refine ⟨fun e => ∃ (k : Nat) (c d : Int) (m : List Nat), e = [some (.sh (.rol (pI ns))), some (.ol [.int (k : Int)]), some (.sh (exT a b l)), some (.sh (exT c d m)), none, none, none, none, none, none, none, none] ∧ bitOk c ∧ bitOk d ∧ m.length ≤ 60 ∧ FateOk m, ?_, ?_⟩
    · walk_at "ax"
      refine ⟨ns, 1, rfl, ?_⟩
      walk_at "ax"
      refine ⟨_, 68, rfl, by decide, ?_⟩
      walk_at "ax"
      refine ⟨a, b, l, _, 0, rfl, ⟨ha, hb, hl, gl⟩, fun c d m k' h1 h2 h3 h4 => ?_⟩
      walk_at "ax"
      exact ⟨k', c, d, m, rfl, h1, h2, h3, h4⟩
    rintro _ ⟨k, c, d, m, rfl, hc, hd, hm, gm⟩
    have shA : ∀ (a b : Int) {l : List Nat}, FateOk l → Shp (exT a b l) 1 := fun a b l gl => shp_ex a b gl
    refine ⟨fun e => e = [some (.sh (.rol (pI ns))), some (.ol [.int (k : Int)]), some (.sh (exT a b l)), some (.sh (exT c d m)), some (.sh (.lst [exP cExchange a b l, exP cExchange c d m])), none, none, none, none, none, none, none], ?_, ?_⟩
    · unfold exT
      walk_at "ax"
      refine ⟨a, b, l, rfl, ⟨ha, hb, gl⟩, ?_⟩
      walk_at "ax"
      refine ⟨c, d, m, rfl, ⟨hc, hd, gm⟩, ?_⟩
      walk_at "ax"
      rfl
    rintro _ rfl
    refine ⟨fun e => e = [some (.sh (.rol (pI ns))), some (.ol [.int (k : Int)]), some (.sh (exT a b l)), some (.sh (exT c d m)), some (.sh (.lst [exP cExchange a b l, exP cExchange c d m])), none, none, none, none, none, none, none], ?_, ?_⟩
    · walk_at "ax"
      refine ⟨a, b, l, rfl, by omega, ?_⟩
      walk_at "ax"
      refine ⟨c, d, m, rfl, by omega, ?_⟩
      walk_at "ax"
    rintro _ rfl
    refine ⟨fun e => e = [some (.sh (.rol (pI ns))), some (.ol [.int (k : Int)]), some (.sh (exT a b l)), some (.sh (exT c d m)), some (.sh (.lst [exP cExchange a b l, exP cExchange c d m])), none, none, none, none, none, none, none], ?_, ?_⟩
    · walk_at "ax"
      refine ⟨a, b, l, c, d, m, rfl, ?_⟩
      walk_at "ax"
      refine ⟨(shA a b gl).ok, (shA c d gm).ok, ?_⟩
      rw [eqv_ex]
      walk_at "ax"
      · first | (rename_i hc; exact Bool.noConfusion (hc.symm.trans (shp_bl _).refl)) | (rename_i hc _; exact Bool.noConfusion (hc.symm.trans (shp_bl _).refl))
      refine ⟨c, d, m, a, b, l, rfl, ?_⟩
      walk_at "ax"
      refine ⟨(shA a b gl).ok, (shA c d gm).ok, ?_⟩
      rw [eqv_ex, show decide (c = a ∧ d = b ∧ m = l) = decide (a = c ∧ b = d ∧ l = m) from decide_eq_decide.mpr ⟨fun h => ⟨h.1.symm, h.2.1.symm, h.2.2.symm⟩, fun h => ⟨h.1.symm, h.2.1.symm, h.2.2.symm⟩⟩]
      walk_at "ax"
      · first | (rename_i hc; exact Bool.noConfusion (hc.symm.trans (shp_bl _).refl)) | (rename_i hc _; exact Bool.noConfusion (hc.symm.trans (shp_bl _).refl))
    rintro _ rfl
    refine ⟨fun e => e = [some (.sh (.rol (pI ns))), some (.ol [.int (k : Int)]), some (.sh (exT a b l)), some (.sh (exT c d m)), some (.sh (.lst [exP cExchange a b l, exP cExchange c d m])), none, none, none, none, none, none, none], ?_, ?_⟩
    · unfold exT
      walk_at "ax"
      refine ⟨a, b, l, rfl, ⟨ha, hb, gl⟩, ?_⟩
      walk_at "ax"
      refine ⟨a, b, l, a, b, l, rfl, ?_⟩
      rw [decide_eq_true ⟨rfl, rfl, rfl⟩]
      walk_at "ax"
      refine ⟨a, b, l, c, d, m, rfl, ⟨⟨hl, gl⟩, ⟨hm, gm⟩⟩, ?_⟩
      walk_at "ax"
    rintro _ rfl
    walk_at "ax"
    refine ⟨ns, 2, rfl, ?_⟩
    walk_at "ax"
    refine ⟨_, 12, rfl, by decide, ?_⟩
    have hr := drawsF_rg (ns.getD 2 0) 12
    generalize drawsF (ns.getD 2 0) 12 = dr at hr ⊢
    have dg : ∀ j, 0 ≤ dr.getD j 0 ∧ dr.getD j 0 < 1000000 := fun j => by
      rw [List.getD_eq_getElem?_getD]
      cases hj : dr[j]? with
      | none => exact ⟨by decide, by decide⟩
      | some x => exact hr x (List.mem_of_getElem? hj)
    walk_at "ax"
    refine ⟨dr, 0, rfl, ?_⟩
    generalize dr.getD 0 0 = kd
    unfold exT
    walk_at "ax"
    refine ⟨fun e => ∃ (k : Nat) (p q : Int), e = [some (.sh (.rol (pI ns))), some (.ol [.int (k : Int)]), some (.sh (exT a b l)), some (.sh (exT c d m)), some (.sh (.lst [exP cExchange a b l, exP cExchange c d m])), some (.sh (.lst (pI dr))), some (.sh (.int kd)), some (.ol [.int p, .int q]), none, none, none, none], ?_, ?_⟩
    · walk_at "ax"
      all_goals first
        | exact ⟨_, _, _, rfl⟩
        | (refine ⟨dr, 1, rfl, ?_⟩
           walk_at "ax"
           refine ⟨_, rfl, dg 1, fun v hv => ?_⟩
           walk_at "ax"
           refine ⟨0, rfl, ?_⟩
           walk_at "ax"
           exact ⟨2, v, _, rfl⟩)
    clear k
    rintro _ ⟨k, p, q1, rfl⟩
    refine ⟨fun e => ∃ (k : Nat) (p q : Int), e = [some (.sh (.rol (pI ns))), some (.ol [.int (k : Int)]), some (.sh (exT a b l)), some (.sh (exT c d m)), some (.sh (.lst [exP cExchange a b l, exP cExchange c d m])), some (.sh (.lst (pI dr))), some (.sh (.int kd)), some (.ol [.int p, .int q]), none, none, none, none], ?_, ?_⟩
    · walk_at "ax"
      all_goals first
        | exact ⟨_, _, _, rfl⟩
        | (refine ⟨dr, k, rfl, ?_⟩
           walk_at "ax"
           refine ⟨_, rfl, dg k, fun v hv => ?_⟩
           walk_at "ax"
           refine ⟨1, rfl, ?_⟩
           walk_at "ax"
           exact ⟨k + 1, p, v, rfl⟩)
    clear k p q1
    rintro _ ⟨k, p, q1, rfl⟩
    unfold exT
    walk_at "ax"
    refine ⟨fun e => ∃ (k : Nat) (l' : List Nat), e = [some (.sh (.rol (pI ns))), some (.ol [.int (k : Int)]), some (.sh (exT a b l)), some (.sh (exT c d m)), some (.sh (.lst [exP cExchange a b l, exP cExchange c d m])), some (.sh (.lst (pI dr))), some (.sh (.int kd)), some (.ol [.int p, .int q1]), some (.sh (.str (mkS l'))), none, none, none] ∧ l'.length ≤ 60, ?_, ?_⟩
    · walk_at "ax"
      · refine ⟨l, dr, k, rfl, hl, fun l' k' h => ?_⟩
        walk_at "ax"
        exact ⟨k', l', rfl, h⟩
      · exact ⟨k, l, rfl, hl⟩
    clear k
    rintro _ ⟨k, l', rfl, hl'⟩
    obtain ⟨r, hr⟩ := ref_ex p q1 l'
    walk_at "ax"
    refine ⟨p, q1, l', r, rfl, hr, ?_⟩
    walk_at "ax"
    refine ⟨fun e => e = [some (.sh (.rol (pI ns))), some (.ol [.int (k : Int)]), some (.sh (exT a b l)), some (.sh (exT c d m)), some (.sh (.lst [exP cExchange a b l, exP cExchange c d m])), some (.sh (.lst (pI dr))), some (.sh (.int kd)), some (.ol [.int p, .int q1]), some (.sh (.str (mkS l'))), some (.sh (refT r)), some (.sh (refD r)), none], ?_, ?_⟩
    · walk_at "ax"
      refine ⟨p, q1, l', r, rfl, ⟨by omega, hr⟩, ?_⟩
      walk_at "ax"
      rfl
    rintro _ rfl
    refine ⟨fun e => e = [some (.sh (.rol (pI ns))), some (.ol [.int (k : Int)]), some (.sh (exT a b l)), some (.sh (exT c d m)), some (.sh (.lst [exP cExchange a b l, exP cExchange c d m])), some (.sh (.lst (pI dr))), some (.sh (.int kd)), some (.ol [.int p, .int q1]), some (.sh (.str (mkS l'))), some (.sh (refT r)), some (.sh (refD r)), none], ?_, ?_⟩
    · cases r
      all_goals (
        walk_at "ax"
        refine ⟨_, rfl, ?_⟩
        walk_at "ax"
        try rfl)
    rintro _ rfl
    refine ⟨fun e' => ∃ (k : Nat) (e : Str), e' = [some (.sh (.rol (pI ns))), some (.ol [.int (k : Int)]), some (.sh (exT a b l)), some (.sh (exT c d m)), some (.sh (.lst [exP cExchange a b l, exP cExchange c d m])), some (.sh (.lst (pI dr))), some (.sh (.int kd)), some (.ol [.int p, .int q1]), some (.sh (.str (mkS l'))), some (.sh (refT r)), some (.sh (refD r)), some (.sh (.str e))] ∧ ¬ EndS e, ?_, ?_⟩
    · walk_at "ax"
      refine ⟨dr, k, rfl, ?_⟩
      walk_at "ax"
      refine ⟨_, rfl, dg k, fun e he => ?_⟩
      walk_at "ax"
      exact ⟨k + 1, e, rfl, he⟩
    clear k
    rintro _ ⟨k, e, rfl, he⟩
    refine ⟨fun e' => ∃ (k : Nat), e' = [some (.sh (.rol (pI ns))), some (.ol [.int (k : Int)]), some (.sh (exT a b l)), some (.sh (exT c d m)), some (.sh (.lst [exP cExchange a b l, exP cExchange c d m])), some (.sh (.lst (pI dr))), some (.sh (.int kd)), some (.ol [.int p, .int q1]), some (.sh (.str (mkS l'))), some (.sh (refT r)), some (.sh (refD r)), some (.sh (.str e))], ?_, ?_⟩
    · walk_at "ax"
      refine ⟨dr, k, rfl, ?_⟩
      walk_at "ax"
      refine ⟨a, b, l, c, d, m, e, _, rfl, he, ?_⟩
      walk_at "ax"
      exact ⟨k + 1, rfl⟩
    clear k
    rintro _ ⟨k, rfl⟩
    walk_at "ax"
    refine ⟨a, b, l, rfl, by omega, ?_⟩
    walk_at "ax"
    refine ⟨a, b, l, c, d, m, rfl, ⟨⟨hl, gl⟩, ⟨hm, gm⟩⟩, ?_⟩
    walk_at "ax"
    exact q _
end K77
namespace K77
open PySem PySem.Spec PyProof.Rows L2 DL
def spLaw (K : PySem.W.Frag) : Sp := fun vs H Q _ => ∃ (a : Addr) (ns : List Int), vs = [.ref a] ∧ SqL K H a (ns.map V.int) ∧ ns.length ≤ 63 ∧ ∀ H', Q (.bl true) H'
theorem law_sp {K : PySem.W.Frag} {cExchange cHouseError cBadBit cBadEnd cBadFate cENDS cARRIVING : Addr} {vs : List V} {H : Hp} {Q : VK} {E : XK} (h : spLaw K vs H Q E) : spD K (fs_law cExchange cHouseError cBadBit cBadEnd cBadFate cENDS cARRIVING) vs H Q E := by
  obtain ⟨a, ns, rfl, hS, hl, q⟩ := h
  refine ⟨H, [.sh (.rol (ns.map P.int))], fun _ => [], fun d _ => d = .sh (.bl true), ?_, ⟨ns, rfl, hl, fun _ => rfl⟩, ?_⟩
  · refine ⟨Ex.refl _, fun i d e => ?_, fun _ _ => rfl, fun _ => List.nodup_nil, fun _ _ _ h => absurd h List.not_mem_nil, fun _ _ h => absurd h List.not_mem_nil, rfl⟩
    cases i with
    | zero =>
      cases e
      exact ⟨_, rfl, rfl, a, _, rfl, hS, RpA.ints⟩
    | succ i => cases e
  · rintro d ds v F B' H' G' rfl _ o _
    rw [show v = V.bl true from o.rp.2]
    exact q H'
theorem all_mk {l : PySem.W.OpenLaw} {w : World} {K : PySem.W.Frag} {h : Heap} {mg : Str → Option Value} {fa : Addr} (X : K.In h) (G : h.Ns mainGlobals mg) (hfa : mg "law" = some (.ref fa))
    {cExchange cHouseError cBadBit cBadEnd cBadFate cENDS cARRIVING : Addr}
    {nm_BadBit qn_BadBit : Str} {N_BadBit : Addr} {bs_BadBit : List Value} {sn_BadBit : List Str} {su_BadBit : List Value} {ab_BadBit : Bool} {co_BadBit : Option Bool} {dd_BadBit : Option Addr} {m0_BadBit m1_BadBit m2_BadBit m3_BadBit m5_BadBit : Option Value} {fE_BadBit : Addr} {odE_BadBit anE_BadBit : Option Addr} {slE_BadBit : Array (Option Value)} {ocE_BadBit kVE_BadBit dcE_BadBit pmE_BadBit cdE_BadBit ctE_BadBit : Value}
    {nm_BadEnd qn_BadEnd : Str} {N_BadEnd : Addr} {bs_BadEnd : List Value} {sn_BadEnd : List Str} {su_BadEnd : List Value} {ab_BadEnd : Bool} {co_BadEnd : Option Bool} {dd_BadEnd : Option Addr} {m0_BadEnd m1_BadEnd m2_BadEnd m3_BadEnd m5_BadEnd : Option Value} {fE_BadEnd : Addr} {odE_BadEnd anE_BadEnd : Option Addr} {slE_BadEnd : Array (Option Value)} {ocE_BadEnd kVE_BadEnd dcE_BadEnd pmE_BadEnd cdE_BadEnd ctE_BadEnd : Value}
    {nm_BadFate qn_BadFate : Str} {N_BadFate : Addr} {bs_BadFate : List Value} {sn_BadFate : List Str} {su_BadFate : List Value} {ab_BadFate : Bool} {co_BadFate : Option Bool} {dd_BadFate : Option Addr} {m0_BadFate m1_BadFate m2_BadFate m3_BadFate m5_BadFate : Option Value} {fE_BadFate : Addr} {odE_BadFate anE_BadFate : Option Addr} {slE_BadFate : Array (Option Value)} {ocE_BadFate kVE_BadFate dcE_BadFate pmE_BadFate cdE_BadFate ctE_BadFate : Value}
    {t0_ENDS t1_ENDS : Tok} {do_ENDS : Option Addr} {nn_ENDS : Nat} {so_ENDS : Array (Option Value)}
    {t_FATES : Tok}
    {t0_ARRIVING u0_ARRIVING t1_ARRIVING u1_ARRIVING : Tok} {h0_ARRIVING h1_ARRIVING : Int} {nn_ARRIVING : Nat}
    {od0 an0 : Option Addr} {sl0 : Array (Option Value)} {oc0 kV0 dc0 pm0 cd0 ct0 : Value} {f0 : Addr}
    {od1 an1 : Option Addr} {sl1 : Array (Option Value)} {oc1 kV1 dc1 pm1 cd1 ct1 : Value} {f1 : Addr}
    {od2 an2 : Option Addr} {sl2 : Array (Option Value)} {oc2 kV2 dc2 pm2 cd2 ct2 : Value} {f2 : Addr}
    {od3 an3 : Option Addr} {sl3 : Array (Option Value)} {oc3 kV3 dc3 pm3 cd3 ct3 : Value} {f3 : Addr}
    {od4 an4 : Option Addr} {sl4 : Array (Option Value)} {oc4 kV4 dc4 pm4 cd4 ct4 : Value} {f4 : Addr}
    {od5 an5 : Option Addr} {sl5 : Array (Option Value)} {oc5 kV5 dc5 pm5 cd5 ct5 : Value} {f5 : Addr}
    {od6 an6 : Option Addr} {sl6 : Array (Option Value)} {oc6 kV6 dc6 pm6 cd6 ct6 : Value} {f6 : Addr}
    {od7 an7 : Option Addr} {sl7 : Array (Option Value)} {oc7 kV7 dc7 pm7 cd7 ct7 : Value} {f7 : Addr}
    {od8 an8 : Option Addr} {sl8 : Array (Option Value)} {oc8 kV8 dc8 pm8 cd8 ct8 : Value} {f8 : Addr}
    {od9 an9 : Option Addr} {sl9 : Array (Option Value)} {oc9 kV9 dc9 pm9 cd9 ct9 : Value} {f9 : Addr}
    {od10 an10 : Option Addr} {sl10 : Array (Option Value)} {oc10 kV10 dc10 pm10 cd10 ct10 : Value} {f10 : Addr}
    {od11 an11 : Option Addr} {sl11 : Array (Option Value)} {oc11 kV11 dc11 pm11 cd11 ct11 : Value} {f11 : Addr}
    {od12 an12 : Option Addr} {sl12 : Array (Option Value)} {oc12 kV12 dc12 pm12 cd12 ct12 : Value} {f12 : Addr}
    {od13 an13 : Option Addr} {sl13 : Array (Option Value)} {oc13 kV13 dc13 pm13 cd13 ct13 : Value} {f13 : Addr}
    {od14 an14 : Option Addr} {sl14 : Array (Option Value)} {oc14 kV14 dc14 pm14 cd14 ct14 : Value} {f14 : Addr}
    {od15 an15 : Option Addr} {sl15 : Array (Option Value)} {oc15 kV15 dc15 pm15 cd15 ct15 : Value} {f15 : Addr}
    {od16 an16 : Option Addr} {sl16 : Array (Option Value)} {oc16 kV16 dc16 pm16 cd16 ct16 : Value} {f16 : Addr}
    {od17 an17 : Option Addr} {sl17 : Array (Option Value)} {oc17 kV17 dc17 pm17 cd17 ct17 : Value} {f17 : Addr}
    {od18 an18 : Option Addr} {sl18 : Array (Option Value)} {oc18 kV18 dc18 pm18 cd18 ct18 : Value} {f18 : Addr}
    {od19 an19 : Option Addr} {sl19 : Array (Option Value)} {oc19 kV19 dc19 pm19 cd19 ct19 : Value} {f19 : Addr}
    {od20 an20 : Option Addr} {sl20 : Array (Option Value)} {oc20 kV20 dc20 pm20 cd20 ct20 : Value} {f20 : Addr}
    {od21 an21 : Option Addr} {sl21 : Array (Option Value)} {oc21 kV21 dc21 pm21 cd21 ct21 : Value} {f21 : Addr}
    {od22 an22 : Option Addr} {sl22 : Array (Option Value)} {oc22 kV22 dc22 pm22 cd22 ct22 : Value} {f22 : Addr}
    {od23 an23 : Option Addr} {sl23 : Array (Option Value)} {oc23 kV23 dc23 pm23 cd23 ct23 : Value} {f23 : Addr}
    {od24 an24 : Option Addr} {sl24 : Array (Option Value)} {oc24 kV24 dc24 pm24 cd24 ct24 : Value} {f24 : Addr}
    (qExchange_aC : PySem.W.nsIn K mainGlobals "Exchange" = some (some (.ref cExchange)))
    (qExchange_pg : PySem.W.plainGet K cExchange Str.empty = true)
    (qExchange_hd : PySem.W.hasDictIn K cExchange = true)
    (qExchange_po : PySem.W.plainOver K cExchange = true)
    (qExchange_sa : PySem.W.findIn K (.ref cExchange) "__setattr__" = some (some (.builtin "object.__setattr__")))
    (qExchange_mk : PySem.W.makesIn K cExchange = true)
    (qExchange_kc : PySem.W.keepIn K (.ref cExchange) = true)
    (qExchange_sf : PySem.W.selfFirst K cExchange = true)
    (qExchange_nf : PySem.W.notFirst K cExchange (.ref cExchange) = true)
    (qExchange_ia : PySem.W.findIn K (.ref cExchange) "__class__" = some (some (.builtin "object.__class__")))
    (qExchange_ib : PySem.W.specialIn K (.builtin "object.__class__") "__get__" = some (some (.builtin "getset_descriptor.__get__")))
    (qExchange_ic : PySem.W.takesIn K (.builtin "object.__class__") = some true)
    (qExchange_im : PySem.W.mroIn K cExchange (.type "object") = some true)
    (qExchange_n_first_bit : PySem.W.findIn K (.ref cExchange) "first_bit" = some none)
    (qExchange_n_second_bit : PySem.W.findIn K (.ref cExchange) "second_bit" = some none)
    (qExchange_n_fates : PySem.W.findIn K (.ref cExchange) "fates" = some none)
    (eHouseError_aC : PySem.W.nsIn K mainGlobals "HouseError" = some (some (.ref cHouseError)))
    (eBadBit_aC : PySem.W.nsIn K mainGlobals "BadBit" = some (some (.ref cBadBit)))
    (eBadEnd_aC : PySem.W.nsIn K mainGlobals "BadEnd" = some (some (.ref cBadEnd)))
    (eBadFate_aC : PySem.W.nsIn K mainGlobals "BadFate" = some (some (.ref cBadFate)))
    (eHouseError_eB : PySem.W.subIn K (.ref cHouseError) (.type "BaseException") = some true)
    (eHouseError_tC : PySem.W.typeIn K (.ref cHouseError) = some (.type "type"))
    (eHouseError_hd : PySem.W.hasDictIn K cHouseError = true)
    (eHouseError_sC : PySem.W.subIn K (.ref cHouseError) (.ref cHouseError) = some true)
    (eBadBit_eB : PySem.W.subIn K (.ref cBadBit) (.type "BaseException") = some true)
    (eBadBit_tC : PySem.W.typeIn K (.ref cBadBit) = some (.type "type"))
    (eBadBit_hd : PySem.W.hasDictIn K cBadBit = true)
    (eBadBit_sC : PySem.W.subIn K (.ref cBadBit) (.ref cBadBit) = some true)
    (eBadBit_xL : K.lookup cBadBit = some (excClassObj nm_BadBit qn_BadBit cBadBit N_BadBit bs_BadBit [.ref cHouseError, .type "ValueError", .type "Exception", .type "BaseException", .type "object"] true sn_BadBit su_BadBit ab_BadBit co_BadBit dd_BadBit m0_BadBit m1_BadBit m2_BadBit m3_BadBit m5_BadBit "ValueError.__new__"))
    (eBadBit_sa : PySem.W.findIn K (.ref cBadBit) "__setattr__" = some (some (.builtin "object.__setattr__")))
    (eBadBit_ga : PySem.W.findIn K (.ref cBadBit) "__getattribute__" = some (some (.builtin "BaseException.__getattribute__")))
    (eBadBit_gg : PySem.W.findIn K (.ref cBadBit) "__getattr__" = some none)
    (eBadBit_no : PySem.W.findIn K (.ref cBadBit) "bit" = some none)
    (eBadBit_in : PySem.W.findIn K (.ref cBadBit) "__init__" = some (some (.ref fE_BadBit)))
    (eBadBit_ti : PySem.W.typeIn K (.ref fE_BadBit) = some (.type "function"))
    (eBadBit_kc : PySem.W.keepIn K (.ref cBadBit) = true)
    (eBadBit_ca : PySem.W.findIn K (.ref cBadBit) "__class__" = some (some (.builtin "object.__class__")))
    (eBadBit_cb : PySem.W.specialIn K (.builtin "object.__class__") "__get__" = some (some (.builtin "getset_descriptor.__get__")))
    (eBadBit_cc : PySem.W.takesIn K (.builtin "object.__class__") = some true)
    (eBadBit_cm : PySem.W.mroIn K cBadBit (.type "object") = some true)
    (eBadBit_fl : K.lookup fE_BadBit = some ⟨ocE_BadBit, odE_BadBit, .func (PySem.W.fnOf "__init__" "BadBit.__init__" (defArgs K77.s_err_BadBit) (defBody K77.s_err_BadBit) (defScope K77.s_err_BadBit) .none kVE_BadBit dcE_BadBit pmE_BadBit anE_BadBit cdE_BadBit ctE_BadBit), slE_BadBit⟩)
    (eBadBit_fc : PySem.W.codeIn K cdE_BadBit "BadBit.__init__" = true)
    (eBadBit_fk : PySem.W.keepIn K (.ref fE_BadBit) = true)
    (eBadBit_s_HouseError : PySem.W.subIn K (.ref cBadBit) (.ref cHouseError) = some true)
    (eBadBit_s_BadEnd : PySem.W.subIn K (.ref cBadBit) (.ref cBadEnd) = some false)
    (eBadBit_s_BadFate : PySem.W.subIn K (.ref cBadBit) (.ref cBadFate) = some false)
    (eBadBit_s_ValueError : PySem.W.subIn K (.ref cBadBit) (.type "ValueError") = some true)
    (eBadEnd_eB : PySem.W.subIn K (.ref cBadEnd) (.type "BaseException") = some true)
    (eBadEnd_tC : PySem.W.typeIn K (.ref cBadEnd) = some (.type "type"))
    (eBadEnd_hd : PySem.W.hasDictIn K cBadEnd = true)
    (eBadEnd_sC : PySem.W.subIn K (.ref cBadEnd) (.ref cBadEnd) = some true)
    (eBadEnd_xL : K.lookup cBadEnd = some (excClassObj nm_BadEnd qn_BadEnd cBadEnd N_BadEnd bs_BadEnd [.ref cHouseError, .type "ValueError", .type "Exception", .type "BaseException", .type "object"] true sn_BadEnd su_BadEnd ab_BadEnd co_BadEnd dd_BadEnd m0_BadEnd m1_BadEnd m2_BadEnd m3_BadEnd m5_BadEnd "ValueError.__new__"))
    (eBadEnd_sa : PySem.W.findIn K (.ref cBadEnd) "__setattr__" = some (some (.builtin "object.__setattr__")))
    (eBadEnd_ga : PySem.W.findIn K (.ref cBadEnd) "__getattribute__" = some (some (.builtin "BaseException.__getattribute__")))
    (eBadEnd_gg : PySem.W.findIn K (.ref cBadEnd) "__getattr__" = some none)
    (eBadEnd_no : PySem.W.findIn K (.ref cBadEnd) "end" = some none)
    (eBadEnd_in : PySem.W.findIn K (.ref cBadEnd) "__init__" = some (some (.ref fE_BadEnd)))
    (eBadEnd_ti : PySem.W.typeIn K (.ref fE_BadEnd) = some (.type "function"))
    (eBadEnd_kc : PySem.W.keepIn K (.ref cBadEnd) = true)
    (eBadEnd_ca : PySem.W.findIn K (.ref cBadEnd) "__class__" = some (some (.builtin "object.__class__")))
    (eBadEnd_cb : PySem.W.specialIn K (.builtin "object.__class__") "__get__" = some (some (.builtin "getset_descriptor.__get__")))
    (eBadEnd_cc : PySem.W.takesIn K (.builtin "object.__class__") = some true)
    (eBadEnd_cm : PySem.W.mroIn K cBadEnd (.type "object") = some true)
    (eBadEnd_fl : K.lookup fE_BadEnd = some ⟨ocE_BadEnd, odE_BadEnd, .func (PySem.W.fnOf "__init__" "BadEnd.__init__" (defArgs K77.s_err_BadEnd) (defBody K77.s_err_BadEnd) (defScope K77.s_err_BadEnd) .none kVE_BadEnd dcE_BadEnd pmE_BadEnd anE_BadEnd cdE_BadEnd ctE_BadEnd), slE_BadEnd⟩)
    (eBadEnd_fc : PySem.W.codeIn K cdE_BadEnd "BadEnd.__init__" = true)
    (eBadEnd_fk : PySem.W.keepIn K (.ref fE_BadEnd) = true)
    (eBadEnd_s_HouseError : PySem.W.subIn K (.ref cBadEnd) (.ref cHouseError) = some true)
    (eBadEnd_s_BadBit : PySem.W.subIn K (.ref cBadEnd) (.ref cBadBit) = some false)
    (eBadEnd_s_BadFate : PySem.W.subIn K (.ref cBadEnd) (.ref cBadFate) = some false)
    (eBadEnd_s_ValueError : PySem.W.subIn K (.ref cBadEnd) (.type "ValueError") = some true)
    (eBadFate_eB : PySem.W.subIn K (.ref cBadFate) (.type "BaseException") = some true)
    (eBadFate_tC : PySem.W.typeIn K (.ref cBadFate) = some (.type "type"))
    (eBadFate_hd : PySem.W.hasDictIn K cBadFate = true)
    (eBadFate_sC : PySem.W.subIn K (.ref cBadFate) (.ref cBadFate) = some true)
    (eBadFate_xL : K.lookup cBadFate = some (excClassObj nm_BadFate qn_BadFate cBadFate N_BadFate bs_BadFate [.ref cHouseError, .type "ValueError", .type "Exception", .type "BaseException", .type "object"] true sn_BadFate su_BadFate ab_BadFate co_BadFate dd_BadFate m0_BadFate m1_BadFate m2_BadFate m3_BadFate m5_BadFate "ValueError.__new__"))
    (eBadFate_sa : PySem.W.findIn K (.ref cBadFate) "__setattr__" = some (some (.builtin "object.__setattr__")))
    (eBadFate_ga : PySem.W.findIn K (.ref cBadFate) "__getattribute__" = some (some (.builtin "BaseException.__getattribute__")))
    (eBadFate_gg : PySem.W.findIn K (.ref cBadFate) "__getattr__" = some none)
    (eBadFate_no : PySem.W.findIn K (.ref cBadFate) "at" = some none)
    (eBadFate_in : PySem.W.findIn K (.ref cBadFate) "__init__" = some (some (.ref fE_BadFate)))
    (eBadFate_ti : PySem.W.typeIn K (.ref fE_BadFate) = some (.type "function"))
    (eBadFate_kc : PySem.W.keepIn K (.ref cBadFate) = true)
    (eBadFate_ca : PySem.W.findIn K (.ref cBadFate) "__class__" = some (some (.builtin "object.__class__")))
    (eBadFate_cb : PySem.W.specialIn K (.builtin "object.__class__") "__get__" = some (some (.builtin "getset_descriptor.__get__")))
    (eBadFate_cc : PySem.W.takesIn K (.builtin "object.__class__") = some true)
    (eBadFate_cm : PySem.W.mroIn K cBadFate (.type "object") = some true)
    (eBadFate_fl : K.lookup fE_BadFate = some ⟨ocE_BadFate, odE_BadFate, .func (PySem.W.fnOf "__init__" "BadFate.__init__" (defArgs K77.s_err_BadFate) (defBody K77.s_err_BadFate) (defScope K77.s_err_BadFate) .none kVE_BadFate dcE_BadFate pmE_BadFate anE_BadFate cdE_BadFate ctE_BadFate), slE_BadFate⟩)
    (eBadFate_fc : PySem.W.codeIn K cdE_BadFate "BadFate.__init__" = true)
    (eBadFate_fk : PySem.W.keepIn K (.ref fE_BadFate) = true)
    (eBadFate_s_HouseError : PySem.W.subIn K (.ref cBadFate) (.ref cHouseError) = some true)
    (eBadFate_s_BadBit : PySem.W.subIn K (.ref cBadFate) (.ref cBadBit) = some false)
    (eBadFate_s_BadEnd : PySem.W.subIn K (.ref cBadFate) (.ref cBadEnd) = some false)
    (eBadFate_s_ValueError : PySem.W.subIn K (.ref cBadFate) (.type "ValueError") = some true)
    (zc_ENDS : PySem.W.nsIn K mainGlobals "ENDS" = some (some (.ref cENDS)))
    (zk_ENDS : K.lookup cENDS = some ⟨.type "tuple", do_ENDS, .seq #[.str "first" t0_ENDS, .str "second" t1_ENDS] nn_ENDS, so_ENDS⟩)
    (zc_FATES : PySem.W.nsIn K mainGlobals "FATES" = some (some (.str "bfsn" t_FATES)))
    (zc_ARRIVING : PySem.W.nsIn K mainGlobals "ARRIVING" = some (some (.ref cARRIVING)))
    (zk_ARRIVING : K.lookup cARRIVING = some ⟨.type "dict", none, .dict #[⟨h0_ARRIVING, .str "first" t0_ARRIVING, .str "bf" u0_ARRIVING⟩, ⟨h1_ARRIVING, .str "second" t1_ARRIVING, .str "bs" u1_ARRIVING⟩] nn_ARRIVING, #[]⟩)
    (zh0_ARRIVING : h0_ARRIVING = PyData.keyHash w.params "first")
    (zn0_ARRIVING : PySem.W.nsIn K cARRIVING "first" = some (some (.str "bf" u0_ARRIVING)))
    (zh1_ARRIVING : h1_ARRIVING = PyData.keyHash w.params "second")
    (zn1_ARRIVING : PySem.W.nsIn K cARRIVING "second" = some (some (.str "bs" u1_ARRIVING)))
    (a0 : PySem.W.findIn K (.ref cExchange) "__eq__" = some (some (.ref f0))) (i0 : PySem.W.isFn K (.ref f0) = true) (l0 : K.lookup f0 = some ⟨oc0, od0, .func (PySem.W.fnOf "__eq__" "Exchange.__eq__" (defArgs s_Exchange_m___eq__) (defBody s_Exchange_m___eq__) (defScope s_Exchange_m___eq__) .none kV0 dc0 pm0 an0 cd0 ct0), sl0⟩) (c0 : PySem.W.codeIn K cd0 "Exchange.__eq__" = true) (k0 : PySem.W.keepIn K (.ref f0) = true)
    (a1 : PySem.W.findIn K (.ref cExchange) "__len__" = some (some (.ref f1))) (i1 : PySem.W.isFn K (.ref f1) = true) (l1 : K.lookup f1 = some ⟨oc1, od1, .func (PySem.W.fnOf "__len__" "Exchange.__len__" (defArgs s_Exchange_m___len__) (defBody s_Exchange_m___len__) (defScope s_Exchange_m___len__) .none kV1 dc1 pm1 an1 cd1 ct1), sl1⟩) (c1 : PySem.W.codeIn K cd1 "Exchange.__len__" = true) (k1 : PySem.W.keepIn K (.ref f1) = true)
    (a2 : PySem.W.nsIn K mainGlobals "_law_cell" = some (some (.ref f2))) (l2 : K.lookup f2 = some ⟨oc2, od2, .func (PySem.W.fnOf "_law_cell" "_law_cell" (defArgs s__law_cell) (defBody s__law_cell) (defScope s__law_cell) .none kV2 dc2 pm2 an2 cd2 ct2), sl2⟩) (c2 : PySem.W.codeIn K cd2 "_law_cell" = true) (k2 : PySem.W.keepIn K (.ref f2) = true)
    (a3 : PySem.W.nsIn K mainGlobals "_law_draws" = some (some (.ref f3))) (l3 : K.lookup f3 = some ⟨oc3, od3, .func (PySem.W.fnOf "_law_draws" "_law_draws" (defArgs s__law_draws) (defBody s__law_draws) (defScope s__law_draws) .none kV3 dc3 pm3 an3 cd3 ct3), sl3⟩) (c3 : PySem.W.codeIn K cd3 "_law_draws" = true) (k3 : PySem.W.keepIn K (.ref f3) = true)
    (a4 : PySem.W.nsIn K mainGlobals "_law_take" = some (some (.ref f4))) (l4 : K.lookup f4 = some ⟨oc4, od4, .func (PySem.W.fnOf "_law_take" "_law_take" (defArgs s__law_take) (defBody s__law_take) (defScope s__law_take) .none kV4 dc4 pm4 an4 cd4 ct4), sl4⟩) (c4 : PySem.W.codeIn K cd4 "_law_take" = true) (k4 : PySem.W.keepIn K (.ref f4) = true)
    (a5 : PySem.W.nsIn K mainGlobals "_law_wrong_bit" = some (some (.ref f5))) (l5 : K.lookup f5 = some ⟨oc5, od5, .func (PySem.W.fnOf "_law_wrong_bit" "_law_wrong_bit" (defArgs s__law_wrong_bit) (defBody s__law_wrong_bit) (defScope s__law_wrong_bit) .none kV5 dc5 pm5 an5 cd5 ct5), sl5⟩) (c5 : PySem.W.codeIn K cd5 "_law_wrong_bit" = true) (k5 : PySem.W.keepIn K (.ref f5) = true)
    (a6 : PySem.W.nsIn K mainGlobals "_law_wrong_end" = some (some (.ref f6))) (l6 : K.lookup f6 = some ⟨oc6, od6, .func (PySem.W.fnOf "_law_wrong_end" "_law_wrong_end" (defArgs s__law_wrong_end) (defBody s__law_wrong_end) (defScope s__law_wrong_end) .none kV6 dc6 pm6 an6 cd6 ct6), sl6⟩) (c6 : PySem.W.codeIn K cd6 "_law_wrong_end" = true) (k6 : PySem.W.keepIn K (.ref f6) = true)
    (a7 : PySem.W.nsIn K mainGlobals "_law_view" = some (some (.ref f7))) (l7 : K.lookup f7 = some ⟨oc7, od7, .func (PySem.W.fnOf "_law_view" "_law_view" (defArgs s__law_view) (defBody s__law_view) (defScope s__law_view) .none kV7 dc7 pm7 an7 cd7 ct7), sl7⟩) (c7 : PySem.W.codeIn K cd7 "_law_view" = true) (k7 : PySem.W.keepIn K (.ref f7) = true)
    (a8 : PySem.W.nsIn K mainGlobals "_law_is_number" = some (some (.ref f8))) (l8 : K.lookup f8 = some ⟨oc8, od8, .func (PySem.W.fnOf "_law_is_number" "_law_is_number" (defArgs s__law_is_number) (defBody s__law_is_number) (defScope s__law_is_number) .none kV8 dc8 pm8 an8 cd8 ct8), sl8⟩) (c8 : PySem.W.codeIn K cd8 "_law_is_number" = true) (k8 : PySem.W.keepIn K (.ref f8) = true)
    (a9 : PySem.W.nsIn K mainGlobals "_law_due_refusal" = some (some (.ref f9))) (l9 : K.lookup f9 = some ⟨oc9, od9, .func (PySem.W.fnOf "_law_due_refusal" "_law_due_refusal" (defArgs s__law_due_refusal) (defBody s__law_due_refusal) (defScope s__law_due_refusal) .none kV9 dc9 pm9 an9 cd9 ct9), sl9⟩) (c9 : PySem.W.codeIn K cd9 "_law_due_refusal" = true) (k9 : PySem.W.keepIn K (.ref f9) = true)
    (a10 : PySem.W.nsIn K mainGlobals "_law_exchange" = some (some (.ref f10))) (l10 : K.lookup f10 = some ⟨oc10, od10, .func (PySem.W.fnOf "_law_exchange" "_law_exchange" (defArgs s__law_exchange) (defBody s__law_exchange) (defScope s__law_exchange) .none kV10 dc10 pm10 an10 cd10 ct10), sl10⟩) (c10 : PySem.W.codeIn K cd10 "_law_exchange" = true) (k10 : PySem.W.keepIn K (.ref f10) = true)
    (a11 : PySem.W.nsIn K mainGlobals "_law_spoilt" = some (some (.ref f11))) (l11 : K.lookup f11 = some ⟨oc11, od11, .func (PySem.W.fnOf "_law_spoilt" "_law_spoilt" (defArgs s__law_spoilt) (defBody s__law_spoilt) (defScope s__law_spoilt) .none kV11 dc11 pm11 an11 cd11 ct11), sl11⟩) (c11 : PySem.W.codeIn K cd11 "_law_spoilt" = true) (k11 : PySem.W.keepIn K (.ref f11) = true)
    (a12 : PySem.W.nsIn K mainGlobals "_law_is_view" = some (some (.ref f12))) (l12 : K.lookup f12 = some ⟨oc12, od12, .func (PySem.W.fnOf "_law_is_view" "_law_is_view" (defArgs s__law_is_view) (defBody s__law_is_view) (defScope s__law_is_view) .none kV12 dc12 pm12 an12 cd12 ct12), sl12⟩) (c12 : PySem.W.codeIn K cd12 "_law_is_view" = true) (k12 : PySem.W.keepIn K (.ref f12) = true)
    (a13 : PySem.W.nsIn K mainGlobals "check_end" = some (some (.ref f13))) (l13 : K.lookup f13 = some ⟨oc13, od13, .func (PySem.W.fnOf "check_end" "check_end" (defArgs s_check_end) (defBody s_check_end) (defScope s_check_end) .none kV13 dc13 pm13 an13 cd13 ct13), sl13⟩) (c13 : PySem.W.codeIn K cd13 "check_end" = true) (k13 : PySem.W.keepIn K (.ref f13) = true)
    (a14 : PySem.W.nsIn K mainGlobals "check_bits" = some (some (.ref f14))) (l14 : K.lookup f14 = some ⟨oc14, od14, .func (PySem.W.fnOf "check_bits" "check_bits" (defArgs s_check_bits) (defBody s_check_bits) (defScope s_check_bits) .none kV14 dc14 pm14 an14 cd14 ct14), sl14⟩) (c14 : PySem.W.codeIn K cd14 "check_bits" = true) (k14 : PySem.W.keepIn K (.ref f14) = true)
    (a15 : PySem.W.nsIn K mainGlobals "check_fates" = some (some (.ref f15))) (l15 : K.lookup f15 = some ⟨oc15, od15, .func (PySem.W.fnOf "check_fates" "check_fates" (defArgs s_check_fates) (defBody s_check_fates) (defScope s_check_fates) .none kV15 dc15 pm15 an15 cd15 ct15), sl15⟩) (c15 : PySem.W.codeIn K cd15 "check_fates" = true) (k15 : PySem.W.keepIn K (.ref f15) = true)
    (a16 : PySem.W.nsIn K mainGlobals "_law_other" = some (some (.ref f16))) (l16 : K.lookup f16 = some ⟨oc16, od16, .func (PySem.W.fnOf "_law_other" "_law_other" (defArgs s__law_other) (defBody s__law_other) (defScope s__law_other) .none kV16 dc16 pm16 an16 cd16 ct16), sl16⟩) (c16 : PySem.W.codeIn K cd16 "_law_other" = true) (k16 : PySem.W.keepIn K (.ref f16) = true)
    (a17 : PySem.W.nsIn K mainGlobals "_law_is_exchange" = some (some (.ref f17))) (l17 : K.lookup f17 = some ⟨oc17, od17, .func (PySem.W.fnOf "_law_is_exchange" "_law_is_exchange" (defArgs s__law_is_exchange) (defBody s__law_is_exchange) (defScope s__law_is_exchange) .none kV17 dc17 pm17 an17 cd17 ct17), sl17⟩) (c17 : PySem.W.codeIn K cd17 "_law_is_exchange" = true) (k17 : PySem.W.keepIn K (.ref f17) = true)
    (a18 : PySem.W.findIn K (.ref cExchange) "__init__" = some (some (.ref f18))) (i18 : PySem.W.isFn K (.ref f18) = true) (l18 : K.lookup f18 = some ⟨oc18, od18, .func (PySem.W.fnOf "__init__" "Exchange.__init__" (defArgs s_Exchange_m___init__) (defBody s_Exchange_m___init__) (defScope s_Exchange_m___init__) .none kV18 dc18 pm18 an18 cd18 ct18), sl18⟩) (c18 : PySem.W.codeIn K cd18 "Exchange.__init__" = true) (k18 : PySem.W.keepIn K (.ref f18) = true)
    (a19 : PySem.W.findIn K (.ref cExchange) "seen" = some (some (.ref f19))) (i19 : PySem.W.isFn K (.ref f19) = true) (l19 : K.lookup f19 = some ⟨oc19, od19, .func (PySem.W.fnOf "seen" "Exchange.seen" (defArgs s_Exchange_m_seen) (defBody s_Exchange_m_seen) (defScope s_Exchange_m_seen) .none kV19 dc19 pm19 an19 cd19 ct19), sl19⟩) (c19 : PySem.W.codeIn K cd19 "Exchange.seen" = true) (k19 : PySem.W.keepIn K (.ref f19) = true)
    (a20 : PySem.W.nsIn K mainGlobals "alike" = some (some (.ref f20))) (l20 : K.lookup f20 = some ⟨oc20, od20, .func (PySem.W.fnOf "alike" "alike" (defArgs s_alike) (defBody s_alike) (defScope s_alike) .none kV20 dc20 pm20 an20 cd20 ct20), sl20⟩) (c20 : PySem.W.codeIn K cd20 "alike" = true) (k20 : PySem.W.keepIn K (.ref f20) = true)
    (a21 : PySem.W.nsIn K mainGlobals "_law_refusal" = some (some (.ref f21))) (l21 : K.lookup f21 = some ⟨oc21, od21, .func (PySem.W.fnOf "_law_refusal" "_law_refusal" (defArgs s__law_refusal) (defBody s__law_refusal) (defScope s__law_refusal) .none kV21 dc21 pm21 an21 cd21 ct21), sl21⟩) (c21 : PySem.W.codeIn K cd21 "_law_refusal" = true) (k21 : PySem.W.keepIn K (.ref f21) = true)
    (a22 : PySem.W.nsIn K mainGlobals "_law_end_refused" = some (some (.ref f22))) (l22 : K.lookup f22 = some ⟨oc22, od22, .func (PySem.W.fnOf "_law_end_refused" "_law_end_refused" (defArgs s__law_end_refused) (defBody s__law_end_refused) (defScope s__law_end_refused) .none kV22 dc22 pm22 an22 cd22 ct22), sl22⟩) (c22 : PySem.W.codeIn K cd22 "_law_end_refused" = true) (k22 : PySem.W.keepIn K (.ref f22) = true)
    (a23 : PySem.W.nsIn K mainGlobals "_law_all_seen" = some (some (.ref f23))) (l23 : K.lookup f23 = some ⟨oc23, od23, .func (PySem.W.fnOf "_law_all_seen" "_law_all_seen" (defArgs s__law_all_seen) (defBody s__law_all_seen) (defScope s__law_all_seen) .none kV23 dc23 pm23 an23 cd23 ct23), sl23⟩) (c23 : PySem.W.codeIn K cd23 "_law_all_seen" = true) (k23 : PySem.W.keepIn K (.ref f23) = true)
    (a24 : PySem.W.nsIn K mainGlobals "law" = some (some (.ref f24))) (l24 : K.lookup f24 = some ⟨oc24, od24, .func (PySem.W.fnOf "law" "law" (defArgs s_law) (defBody s_law) (defScope s_law) .none kV24 dc24 pm24 an24 cd24 ct24), sl24⟩) (c24 : PySem.W.codeIn K cd24 "law" = true) (k24 : PySem.W.keepIn K (.ref f24) = true)
    (z_isinstance : PySem.W.nsIn K mainGlobals "isinstance" = some none)
    (z_len : PySem.W.nsIn K mainGlobals "len" = some none)
    (z_int : PySem.W.nsIn K mainGlobals "int" = some none)
    (z_abs : PySem.W.nsIn K mainGlobals "abs" = some none)
    (z_range : PySem.W.nsIn K mainGlobals "range" = some none)
    (z_bool : PySem.W.nsIn K mainGlobals "bool" = some none)
    (z_tuple : PySem.W.nsIn K mainGlobals "tuple" = some none)
    (z_str : PySem.W.nsIn K mainGlobals "str" = some none)
    (z_enumerate : PySem.W.nsIn K mainGlobals "enumerate" = some none)
    (z_ValueError : PySem.W.nsIn K mainGlobals "ValueError" = some none) :
    ∃ fd : FuncData, (∀ (s : Shared) (v : Value), BindsTo s fd ⟨[v], []⟩ [("script", v)]) ∧ ∀ base : Heap, K.In base → base.Ns mainGlobals mg → FnOk l.prog w K mg base CX0 7 fa fd ["script"] (spLaw K) := by
  have e := hfa.symm.trans (PySem.W.mg_of X G a24)
  cases e
  have F0 := fun_mk (st := s_Exchange_m___eq__) l0 c0 k0
  have F1 := fun_mk (st := s_Exchange_m___len__) l1 c1 k1
  have F2 := fun_mk (st := s__law_cell) l2 c2 k2
  have F3 := fun_mk (st := s__law_draws) l3 c3 k3
  have F4 := fun_mk (st := s__law_take) l4 c4 k4
  have F5 := fun_mk (st := s__law_wrong_bit) l5 c5 k5
  have F6 := fun_mk (st := s__law_wrong_end) l6 c6 k6
  have F7 := fun_mk (st := s__law_view) l7 c7 k7
  have F8 := fun_mk (st := s__law_is_number) l8 c8 k8
  have F9 := fun_mk (st := s__law_due_refusal) l9 c9 k9
  have F10 := fun_mk (st := s__law_exchange) l10 c10 k10
  have F11 := fun_mk (st := s__law_spoilt) l11 c11 k11
  have F12 := fun_mk (st := s__law_is_view) l12 c12 k12
  have F13 := fun_mk (st := s_check_end) l13 c13 k13
  have F14 := fun_mk (st := s_check_bits) l14 c14 k14
  have F15 := fun_mk (st := s_check_fates) l15 c15 k15
  have F16 := fun_mk (st := s__law_other) l16 c16 k16
  have F17 := fun_mk (st := s__law_is_exchange) l17 c17 k17
  have F18 := fun_mk (st := s_Exchange_m___init__) l18 c18 k18
  have F19 := fun_mk (st := s_Exchange_m_seen) l19 c19 k19
  have F20 := fun_mk (st := s_alike) l20 c20 k20
  have F21 := fun_mk (st := s__law_refusal) l21 c21 k21
  have F22 := fun_mk (st := s__law_end_refused) l22 c22 k22
  have F23 := fun_mk (st := s__law_all_seen) l23 c23 k23
  have F24 := fun_mk (st := s_law) l24 c24 k24
  have m_isinstance := PySem.W.mg_none_of X G z_isinstance
  have m_len := PySem.W.mg_none_of X G z_len
  have m_int := PySem.W.mg_none_of X G z_int
  have m_abs := PySem.W.mg_none_of X G z_abs
  have m_range := PySem.W.mg_none_of X G z_range
  have m_bool := PySem.W.mg_none_of X G z_bool
  have m_tuple := PySem.W.mg_none_of X G z_tuple
  have m_str := PySem.W.mg_none_of X G z_str
  have m_enumerate := PySem.W.mg_none_of X G z_enumerate
  have m_ValueError := PySem.W.mg_none_of X G z_ValueError
  have g2 := PySem.W.mg_of X G a2
  have g3 := PySem.W.mg_of X G a3
  have g4 := PySem.W.mg_of X G a4
  have g5 := PySem.W.mg_of X G a5
  have g6 := PySem.W.mg_of X G a6
  have g7 := PySem.W.mg_of X G a7
  have g8 := PySem.W.mg_of X G a8
  have g9 := PySem.W.mg_of X G a9
  have g10 := PySem.W.mg_of X G a10
  have g11 := PySem.W.mg_of X G a11
  have g12 := PySem.W.mg_of X G a12
  have g13 := PySem.W.mg_of X G a13
  have g14 := PySem.W.mg_of X G a14
  have g15 := PySem.W.mg_of X G a15
  have g16 := PySem.W.mg_of X G a16
  have g17 := PySem.W.mg_of X G a17
  have g20 := PySem.W.mg_of X G a20
  have g21 := PySem.W.mg_of X G a21
  have g22 := PySem.W.mg_of X G a22
  have g23 := PySem.W.mg_of X G a23
  have g24 := PySem.W.mg_of X G a24
  have K_Exchange : Cls K cExchange := ⟨qExchange_pg, qExchange_hd, qExchange_po, qExchange_sa⟩
  have T : Txt K mg cExchange cHouseError cBadBit cBadEnd cBadFate cENDS cARRIVING := ⟨K_Exchange, PySem.W.mg_of X G qExchange_aC, qExchange_sf, qExchange_nf, ⟨K_Exchange, qExchange_ia, qExchange_ib, qExchange_ic, qExchange_im, DL.kit_self K cExchange⟩, qExchange_n_first_bit, qExchange_n_second_bit, qExchange_n_fates, PySem.W.mg_of X G eHouseError_aC, PySem.W.mg_of X G eBadBit_aC, PySem.W.mg_of X G eBadEnd_aC, PySem.W.mg_of X G eBadFate_aC, PySem.W.exm_ref eBadEnd_eB eBadEnd_hd eBadEnd_tC eBadEnd_sC, PySem.W.exm_ref eBadBit_eB eBadBit_hd eBadBit_tC eBadEnd_s_BadBit, PySem.W.exm_ref eBadFate_eB eBadFate_hd eBadFate_tC eBadEnd_s_BadFate, DL.kit_ref eBadBit_hd eBadBit_tC eBadEnd_s_BadBit eBadEnd_sC, DL.kit_ref eHouseError_hd eHouseError_tC eBadEnd_s_HouseError eBadEnd_sC, DL.kit_typ (by decide +kernel) eBadEnd_s_ValueError, DL.kit_ref eBadFate_hd eBadFate_tC eBadEnd_s_BadFate eBadEnd_sC, DL.kit_ref eBadEnd_hd eBadEnd_tC eBadEnd_sC eBadEnd_sC, PySem.W.exm_ref eBadEnd_eB eBadEnd_hd eBadEnd_tC eBadFate_s_BadEnd, PySem.W.exm_ref eBadBit_eB eBadBit_hd eBadBit_tC eBadFate_s_BadBit, PySem.W.exm_ref eBadFate_eB eBadFate_hd eBadFate_tC eBadFate_sC, DL.kit_ref eBadBit_hd eBadBit_tC eBadFate_s_BadBit eBadFate_sC, DL.kit_ref eHouseError_hd eHouseError_tC eBadFate_s_HouseError eBadFate_sC, DL.kit_typ (by decide +kernel) eBadFate_s_ValueError, DL.kit_ref eBadFate_hd eBadFate_tC eBadFate_sC eBadFate_sC, DL.kit_ref eBadEnd_hd eBadEnd_tC eBadFate_s_BadEnd eBadFate_sC, PySem.W.exm_ref eBadEnd_eB eBadEnd_hd eBadEnd_tC eBadBit_s_BadEnd, PySem.W.exm_ref eBadBit_eB eBadBit_hd eBadBit_tC eBadBit_sC, PySem.W.exm_ref eBadFate_eB eBadFate_hd eBadFate_tC eBadBit_s_BadFate, DL.kit_ref eBadBit_hd eBadBit_tC eBadBit_sC eBadBit_sC, DL.kit_ref eHouseError_hd eHouseError_tC eBadBit_s_HouseError eBadBit_sC, DL.kit_typ (by decide +kernel) eBadBit_s_ValueError, DL.kit_ref eBadFate_hd eBadFate_tC eBadBit_s_BadFate eBadBit_sC, DL.kit_ref eBadEnd_hd eBadEnd_tC eBadBit_s_BadEnd eBadBit_sC, PySem.W.mg_of X G zc_ENDS, ⟨_, _, _, zk_ENDS, rfl, rfl, (show 2 ≤ sizeLine by decide), (.cons ⟨_, rfl⟩ (.cons ⟨_, rfl⟩ .nil))⟩, ⟨_, PySem.W.mg_of X G zc_FATES, _, rfl⟩, PySem.W.mg_of X G zc_ARRIVING⟩
  have DD_ARRIVING : KDT K w cARRIVING [("first", "bf"), ("second", "bs")] := fun x y hxy => by
    have hm := DL.mem_of_lookup hxy
    simp only [List.mem_cons, List.not_mem_nil, or_false, Prod.mk.injEq] at hm
    rcases hm with ⟨rfl, rfl⟩ | ⟨rfl, rfl⟩
    · exact ⟨_, _, _, zk_ARRIVING, ⟨⟨_, _, rfl, zh0_ARRIVING⟩, ⟨⟨_, _, rfl, zh1_ARRIVING⟩, trivial⟩⟩, zn0_ARRIVING, _, rfl⟩
    · exact ⟨_, _, _, zk_ARRIVING, ⟨⟨_, _, rfl, zh0_ARRIVING⟩, ⟨⟨_, _, rfl, zh1_ARRIVING⟩, trivial⟩⟩, zn1_ARRIVING, _, rfl⟩
  refine' ⟨_, ?_, fun base _ _ => ?_⟩
  rotate_left 2
  have FE_BadEnd := fun_mk (st := s_err_BadEnd) eBadEnd_fl eBadEnd_fc eBadEnd_fk
  have TE_BadEnd : DL.ErrT K mg "BadEnd" cBadEnd fE_BadEnd "end" := ⟨T.mg_BadEnd, ⟨⟨_, _, _, _, _, _, _, _, _, _, _, _, _, _, _, eBadEnd_xL, by first | rfl | decide +kernel⟩, eBadEnd_sa, eBadEnd_eB, eBadEnd_tC, eBadEnd_kc⟩, eBadEnd_no, eBadEnd_in, eBadEnd_ti, ⟨eBadEnd_ga, eBadEnd_gg, eBadEnd_eB, eBadEnd_hd⟩, ⟨eBadEnd_ga, eBadEnd_gg, eBadEnd_eB, eBadEnd_hd, eBadEnd_ca, eBadEnd_cb, eBadEnd_cc, eBadEnd_cm⟩⟩
  have R_BadEnd : DL.CalleeE l.prog w K mg base 1 "BadEnd" cBadEnd fE_BadEnd _ ["self", "end"] "end" := ⟨TE_BadEnd, ok_err_BadEnd FE_BadEnd, FE_BadEnd.binds fun _ _ _ _ _ _ us hl => match us, hl with | [_, _], _ => rfl⟩
  have FE_BadFate := fun_mk (st := s_err_BadFate) eBadFate_fl eBadFate_fc eBadFate_fk
  have TE_BadFate : DL.ErrT K mg "BadFate" cBadFate fE_BadFate "at" := ⟨T.mg_BadFate, ⟨⟨_, _, _, _, _, _, _, _, _, _, _, _, _, _, _, eBadFate_xL, by first | rfl | decide +kernel⟩, eBadFate_sa, eBadFate_eB, eBadFate_tC, eBadFate_kc⟩, eBadFate_no, eBadFate_in, eBadFate_ti, ⟨eBadFate_ga, eBadFate_gg, eBadFate_eB, eBadFate_hd⟩, ⟨eBadFate_ga, eBadFate_gg, eBadFate_eB, eBadFate_hd, eBadFate_ca, eBadFate_cb, eBadFate_cc, eBadFate_cm⟩⟩
  have R_BadFate : DL.CalleeE l.prog w K mg base 1 "BadFate" cBadFate fE_BadFate _ ["self", "at"] "at" := ⟨TE_BadFate, ok_err_BadFate FE_BadFate, FE_BadFate.binds fun _ _ _ _ _ _ us hl => match us, hl with | [_, _], _ => rfl⟩
  have FE_BadBit := fun_mk (st := s_err_BadBit) eBadBit_fl eBadBit_fc eBadBit_fk
  have TE_BadBit : DL.ErrT K mg "BadBit" cBadBit fE_BadBit "bit" := ⟨T.mg_BadBit, ⟨⟨_, _, _, _, _, _, _, _, _, _, _, _, _, _, _, eBadBit_xL, by first | rfl | decide +kernel⟩, eBadBit_sa, eBadBit_eB, eBadBit_tC, eBadBit_kc⟩, eBadBit_no, eBadBit_in, eBadBit_ti, ⟨eBadBit_ga, eBadBit_gg, eBadBit_eB, eBadBit_hd⟩, ⟨eBadBit_ga, eBadBit_gg, eBadBit_eB, eBadBit_hd, eBadBit_ca, eBadBit_cb, eBadBit_cc, eBadBit_cm⟩⟩
  have R_BadBit : DL.CalleeE l.prog w K mg base 1 "BadBit" cBadBit fE_BadBit _ ["self", "bit"] "bit" := ⟨TE_BadBit, ok_err_BadBit FE_BadBit, FE_BadBit.binds fun _ _ _ _ _ _ us hl => match us, hl with | [_, _], _ => rfl⟩
  have O0 := ok_Exchange_m___eq__ (Pg := l.prog) (w := w) (base := base) F0 m_isinstance T
  have CP_Exchange_m___eq__ : DL.CalleeP l.prog w K mg base 1 cExchange "__eq__" f0 _ ["self", "other"] (fs_Exchange_m___eq__ cExchange cHouseError cBadBit cBadEnd cBadFate cENDS cARRIVING) := ⟨O0, ⟨a0, i0⟩, F0.binds fun _ _ _ _ _ _ us hl => match us, hl with | [_, _], _ => rfl⟩
  have O1 := ok_Exchange_m___len__ (Pg := l.prog) (w := w) (base := base) F1 m_len T
  have CP_Exchange_m___len__ : DL.CalleeP l.prog w K mg base 1 cExchange "__len__" f1 _ ["self"] (fs_Exchange_m___len__ cExchange cHouseError cBadBit cBadEnd cBadFate cENDS cARRIVING) := ⟨O1, ⟨a1, i1⟩, F1.binds fun _ _ _ _ _ _ us hl => match us, hl with | [_], _ => rfl⟩
  have O2 := ok__law_cell (Pg := l.prog) (w := w) (base := base) F2 m_len m_int T
  have C__law_cell : DL.Callee l.prog w K mg base 1 "_law_cell" f2 _ ["script", "k"] (fs__law_cell cExchange cHouseError cBadBit cBadEnd cBadFate cENDS cARRIVING) := ⟨O2, g2, k2, F2.binds fun _ _ _ _ _ _ us hl => match us, hl with | [_, _], _ => rfl⟩
  have O3 := ok__law_draws (Pg := l.prog) (w := w) (base := base) F3 m_abs m_int m_range T
  have C__law_draws : DL.Callee l.prog w K mg base 1 "_law_draws" f3 _ ["cell", "many"] (fs__law_draws cExchange cHouseError cBadBit cBadEnd cBadFate cENDS cARRIVING) := ⟨O3, g3, k3, F3.binds fun _ _ _ _ _ _ us hl => match us, hl with | [_, _], _ => rfl⟩
  have O4 := ok__law_take (Pg := l.prog) (w := w) (base := base) F4 m_len T
  have C__law_take : DL.Callee l.prog w K mg base 1 "_law_take" f4 _ ["draws", "place"] (fs__law_take cExchange cHouseError cBadBit cBadEnd cBadFate cENDS cARRIVING) := ⟨O4, g4, k4, F4.binds fun _ _ _ _ _ _ us hl => match us, hl with | [_, _], _ => rfl⟩
  have O5 := ok__law_wrong_bit (Pg := l.prog) (w := w) (base := base) F5 m_int T
  have C__law_wrong_bit : DL.Callee l.prog w K mg base 1 "_law_wrong_bit" f5 _ ["draw"] (fs__law_wrong_bit cExchange cHouseError cBadBit cBadEnd cBadFate cENDS cARRIVING) := ⟨O5, g5, k5, F5.binds fun _ _ _ _ _ _ us hl => match us, hl with | [_], _ => rfl⟩
  have O6 := ok__law_wrong_end (Pg := l.prog) (w := w) (base := base) F6 m_int m_len T
  have C__law_wrong_end : DL.Callee l.prog w K mg base 1 "_law_wrong_end" f6 _ ["draw"] (fs__law_wrong_end cExchange cHouseError cBadBit cBadEnd cBadFate cENDS cARRIVING) := ⟨O6, g6, k6, F6.binds fun _ _ _ _ _ _ us hl => match us, hl with | [_], _ => rfl⟩
  have O7 := ok__law_view (Pg := l.prog) (w := w) (base := base) F7 m_range m_len T
  have C__law_view : DL.Callee l.prog w K mg base 1 "_law_view" f7 _ ["exchange", "end"] (fs__law_view cExchange cHouseError cBadBit cBadEnd cBadFate cENDS cARRIVING) := ⟨O7, g7, k7, F7.binds fun _ _ _ _ _ _ us hl => match us, hl with | [_, _], _ => rfl⟩
  have O8 := ok__law_is_number (Pg := l.prog) (w := w) (base := base) F8 m_isinstance m_int m_bool T
  have C__law_is_number : DL.Callee l.prog w K mg base 1 "_law_is_number" f8 _ ["told", "due"] (fs__law_is_number cExchange cHouseError cBadBit cBadEnd cBadFate cENDS cARRIVING) := ⟨O8, g8, k8, F8.binds fun _ _ _ _ _ _ us hl => match us, hl with | [_, _], _ => rfl⟩
  have O9 := ok__law_due_refusal (Pg := l.prog) (w := w) (base := base) F9 m_range m_len T
  have C__law_due_refusal : DL.Callee l.prog w K mg base 1 "_law_due_refusal" f9 _ ["first_bit", "second_bit", "fates"] (fs__law_due_refusal cExchange cHouseError cBadBit cBadEnd cBadFate cENDS cARRIVING) := ⟨O9, g9, k9, F9.binds fun _ _ _ _ _ _ us hl => match us, hl with | [_, _, _], _ => rfl⟩
  have O10 := ok__law_exchange (Pg := l.prog) (w := w) (base := base) F10 m_int m_len m_range T C__law_take
  have C__law_exchange : DL.Callee l.prog w K mg base 2 "_law_exchange" f10 _ ["draws", "place", "most"] (fs__law_exchange cExchange cHouseError cBadBit cBadEnd cBadFate cENDS cARRIVING) := ⟨O10, g10, k10, F10.binds fun _ _ _ _ _ _ us hl => match us, hl with | [_, _, _], _ => rfl⟩
  have O11 := ok__law_spoilt (Pg := l.prog) (w := w) (base := base) F11 m_range m_int m_len T C__law_take
  have C__law_spoilt : DL.Callee l.prog w K mg base 2 "_law_spoilt" f11 _ ["fates", "draws", "place"] (fs__law_spoilt cExchange cHouseError cBadBit cBadEnd cBadFate cENDS cARRIVING) := ⟨O11, g11, k11, F11.binds fun _ _ _ _ _ _ us hl => match us, hl with | [_, _, _], _ => rfl⟩
  have O12 := ok__law_is_view (Pg := l.prog) (w := w) (base := base) F12 m_isinstance m_tuple m_len m_str T C__law_is_number
  have C__law_is_view : DL.Callee l.prog w K mg base 2 "_law_is_view" f12 _ ["told", "due"] (fs__law_is_view cExchange cHouseError cBadBit cBadEnd cBadFate cENDS cARRIVING) := ⟨O12, g12, k12, F12.binds fun _ _ _ _ _ _ us hl => match us, hl with | [_, _], _ => rfl⟩
  have OX13 := ok_x_check_end (Pg := l.prog) (w := w) (base := base) F13 T R_BadEnd
  have O13 := FnOkX.plain OX13
  have XX_check_end : DL.CalleeFX l.prog w K mg base 3 f13 _ ["end"] (fs_check_end cExchange cHouseError cBadBit cBadEnd cBadFate cENDS cARRIVING) (fx_check_end cExchange cHouseError cBadBit cBadEnd cBadFate cENDS cARRIVING) := ⟨OX13⟩
  have C_check_end : DL.Callee l.prog w K mg base 3 "check_end" f13 _ ["end"] (fs_check_end cExchange cHouseError cBadBit cBadEnd cBadFate cENDS cARRIVING) := ⟨O13, g13, k13, F13.binds fun _ _ _ _ _ _ us hl => match us, hl with | [_], _ => rfl⟩
  have OX14 := ok_x_check_bits (Pg := l.prog) (w := w) (base := base) F14 T R_BadBit
  have O14 := FnOkX.plain OX14
  have XX_check_bits : DL.CalleeFX l.prog w K mg base 3 f14 _ ["bits"] (fs_check_bits cExchange cHouseError cBadBit cBadEnd cBadFate cENDS cARRIVING) (fx_check_bits cExchange cHouseError cBadBit cBadEnd cBadFate cENDS cARRIVING) := ⟨OX14⟩
  have C_check_bits : DL.Callee l.prog w K mg base 3 "check_bits" f14 _ ["bits"] (fs_check_bits cExchange cHouseError cBadBit cBadEnd cBadFate cENDS cARRIVING) := ⟨O14, g14, k14, F14.binds fun _ _ _ _ _ _ us hl => match us, hl with | [_], _ => rfl⟩
  have OX15 := ok_x_check_fates (Pg := l.prog) (w := w) (base := base) F15 m_enumerate T R_BadFate
  have O15 := FnOkX.plain OX15
  have XX_check_fates : DL.CalleeFX l.prog w K mg base 3 f15 _ ["fates"] (fs_check_fates cExchange cHouseError cBadBit cBadEnd cBadFate cENDS cARRIVING) (fx_check_fates cExchange cHouseError cBadBit cBadEnd cBadFate cENDS cARRIVING) := ⟨OX15⟩
  have C_check_fates : DL.Callee l.prog w K mg base 3 "check_fates" f15 _ ["fates"] (fs_check_fates cExchange cHouseError cBadBit cBadEnd cBadFate cENDS cARRIVING) := ⟨O15, g15, k15, F15.binds fun _ _ _ _ _ _ us hl => match us, hl with | [_], _ => rfl⟩
  have O16 := ok__law_other (Pg := l.prog) (w := w) (base := base) F16 m_int m_len T C__law_take C__law_exchange
  have C__law_other : DL.Callee l.prog w K mg base 3 "_law_other" f16 _ ["one", "draws", "place"] (fs__law_other cExchange cHouseError cBadBit cBadEnd cBadFate cENDS cARRIVING) := ⟨O16, g16, k16, F16.binds fun _ _ _ _ _ _ us hl => match us, hl with | [_, _, _], _ => rfl⟩
  have O17 := ok__law_is_exchange (Pg := l.prog) (w := w) (base := base) F17 m_isinstance m_str m_len T C__law_is_number CP_Exchange_m___len__
  have C__law_is_exchange : DL.Callee l.prog w K mg base 3 "_law_is_exchange" f17 _ ["told", "due"] (fs__law_is_exchange cExchange cHouseError cBadBit cBadEnd cBadFate cENDS cARRIVING) := ⟨O17, g17, k17, F17.binds fun _ _ _ _ _ _ us hl => match us, hl with | [_, _], _ => rfl⟩
  have OX18 := ok_x_Exchange_m___init__ (Pg := l.prog) (w := w) (base := base) F18 T C_check_bits C_check_fates XX_check_bits XX_check_fates
  have O18 := FnOkX.plain OX18
  have XX_Exchange_m___init__ : DL.CalleeFX l.prog w K mg base 4 f18 _ ["self", "first_bit", "second_bit", "fates"] (fs_Exchange_m___init__ cExchange cHouseError cBadBit cBadEnd cBadFate cENDS cARRIVING) (fx_Exchange_m___init__ cExchange cHouseError cBadBit cBadEnd cBadFate cENDS cARRIVING) := ⟨OX18⟩
  have CC_Exchange_m___init__ : DL.CalleeC l.prog w K mg base 4 "Exchange" cExchange f18 _ ["self", "first_bit", "second_bit", "fates"] (fs_Exchange_m___init__ cExchange cHouseError cBadBit cBadEnd cBadFate cENDS cARRIVING) := ⟨O18, ⟨qExchange_mk, a18, i18, qExchange_kc⟩, T.mg_Exchange, F18.binds fun _ _ _ _ _ _ us hl => match us, hl with | [_, _, _, _], _ => rfl⟩
  have OX19 := ok_x_Exchange_m_seen (Pg := l.prog) (w := w) (base := base) F19 m_enumerate m_len T C_check_end DD_ARRIVING XX_check_end
  have O19 := FnOkX.plain OX19
  have XX_Exchange_m_seen : DL.CalleeFX l.prog w K mg base 4 f19 _ ["self", "end"] (fs_Exchange_m_seen cExchange cHouseError cBadBit cBadEnd cBadFate cENDS cARRIVING) (fx_Exchange_m_seen cExchange cHouseError cBadBit cBadEnd cBadFate cENDS cARRIVING) := ⟨OX19⟩
  have CM_Exchange_m_seen : DL.CalleeM l.prog w K mg base 4 cExchange "seen" f19 _ ["self", "end"] (fs_Exchange_m_seen cExchange cHouseError cBadBit cBadEnd cBadFate cENDS cARRIVING) := ⟨O19, K_Exchange, ⟨a19, i19, k19⟩, F19.binds fun _ _ _ _ _ _ us hl => match us, hl with | [_, _], _ => rfl⟩
  have OX20 := ok_x_alike (Pg := l.prog) (w := w) (base := base) F20 T CM_Exchange_m_seen XX_Exchange_m_seen
  have O20 := FnOkX.plain OX20
  have XX_alike : DL.CalleeFX l.prog w K mg base 5 f20 _ ["one", "other", "to"] (fs_alike cExchange cHouseError cBadBit cBadEnd cBadFate cENDS cARRIVING) (fx_alike cExchange cHouseError cBadBit cBadEnd cBadFate cENDS cARRIVING) := ⟨OX20⟩
  have C_alike : DL.CalleeK l.prog w K mg base 5 "alike" f20 _ ["one", "other", "to"] ["to"] 2 1 (fs_alike cExchange cHouseError cBadBit cBadEnd cBadFate cENDS cARRIVING) := ⟨O20, g20, k20, Fun.kbinds F20 rfl (by decide) fun _ _ _ _ _ _ us ws h1 h2 => match us, ws, h1, h2 with | [_, _], [_], _, _ => rfl⟩
  have O21 := ok__law_refusal (Pg := l.prog) (w := w) (base := base) F21 m_isinstance T CC_Exchange_m___init__ R_BadBit R_BadFate XX_Exchange_m___init__
  have C__law_refusal : DL.Callee l.prog w K mg base 6 "_law_refusal" f21 _ ["first_bit", "second_bit", "fates"] (fs__law_refusal cExchange cHouseError cBadBit cBadEnd cBadFate cENDS cARRIVING) := ⟨O21, g21, k21, F21.binds fun _ _ _ _ _ _ us hl => match us, hl with | [_, _, _], _ => rfl⟩
  have O22 := ok__law_end_refused (Pg := l.prog) (w := w) (base := base) F22 m_isinstance m_ValueError m_str T CM_Exchange_m_seen C_alike R_BadEnd XX_Exchange_m_seen XX_alike
  have C__law_end_refused : DL.Callee l.prog w K mg base 6 "_law_end_refused" f22 _ ["one", "other", "end", "door"] (fs__law_end_refused cExchange cHouseError cBadBit cBadEnd cBadFate cENDS cARRIVING) := ⟨O22, g22, k22, F22.binds fun _ _ _ _ _ _ us hl => match us, hl with | [_, _, _, _], _ => rfl⟩
  have O23 := ok__law_all_seen (Pg := l.prog) (w := w) (base := base) F23 m_range m_isinstance m_bool T C__law_view C__law_is_view CM_Exchange_m_seen C_alike CP_Exchange_m___eq__
  have C__law_all_seen : DL.Callee l.prog w K mg base 6 "_law_all_seen" f23 _ ["one", "other", "exchanges"] (fs__law_all_seen cExchange cHouseError cBadBit cBadEnd cBadFate cENDS cARRIVING) := ⟨O23, g23, k23, F23.binds fun _ _ _ _ _ _ us hl => match us, hl with | [_, _, _], _ => rfl⟩
  exact (ok_law (Pg := l.prog) (w := w) (base := base) F24 m_int T C__law_exchange C__law_draws C__law_cell C__law_other CC_Exchange_m___init__ C__law_is_exchange CP_Exchange_m___eq__ C__law_all_seen C__law_take C__law_wrong_bit C__law_spoilt C__law_refusal C__law_due_refusal C__law_is_number C__law_wrong_end C__law_end_refused).imp fun vs H Q E h => law_sp h
  exact fun s v => .of_eq rfl
end K77
open PySem PySem.W PyProof.Rows
set_option maxHeartbeats 0 in
theorem PySem.Challenge.cw_signedpacts_k77_views_holds : PySem.Challenge.rw_signedpacts_k77_views.Holds := by
  w_on; o_law; k_head; (case hw => w_witness2)
  k_fill
  refine L2.walk_of (l := PySem.Challenge.rw_signedpacts_k77_views) (n := 63) (k := 7) (x := "script") (CX := fun _ => L2.CX0) (sp := fun w => K77.spLaw _) rfl (by decide) rfl ⟨rfl, by decide, by decide⟩ (fun w h Y => PySem.W.kIn_of Y) ?F (fun _ _ a ns hl _ hS => ⟨a, ns, rfl, hS, hl, fun _ => rfl⟩) (fun _ _ _ _ _ h => h)
  case F =>
    intro w mg fa h KX G hmg
    refine' K77.all_mk KX G hmg ?qExchange_aC ?qExchange_pg ?qExchange_hd ?qExchange_po ?qExchange_sa ?qExchange_mk ?qExchange_kc ?qExchange_sf ?qExchange_nf ?qExchange_ia ?qExchange_ib ?qExchange_ic ?qExchange_im ?qExchange_n_first_bit ?qExchange_n_second_bit ?qExchange_n_fates ?eHouseError_aC ?eBadBit_aC ?eBadEnd_aC ?eBadFate_aC ?eHouseError_eB ?eHouseError_tC ?eHouseError_hd ?eHouseError_sC ?eBadBit_eB ?eBadBit_tC ?eBadBit_hd ?eBadBit_sC ?eBadBit_xL ?eBadBit_sa ?eBadBit_ga ?eBadBit_gg ?eBadBit_no ?eBadBit_in ?eBadBit_ti ?eBadBit_kc ?eBadBit_ca ?eBadBit_cb ?eBadBit_cc ?eBadBit_cm ?eBadBit_fl ?eBadBit_fc ?eBadBit_fk ?eBadBit_s_HouseError ?eBadBit_s_BadEnd ?eBadBit_s_BadFate ?eBadBit_s_ValueError ?eBadEnd_eB ?eBadEnd_tC ?eBadEnd_hd ?eBadEnd_sC ?eBadEnd_xL ?eBadEnd_sa ?eBadEnd_ga ?eBadEnd_gg ?eBadEnd_no ?eBadEnd_in ?eBadEnd_ti ?eBadEnd_kc ?eBadEnd_ca ?eBadEnd_cb ?eBadEnd_cc ?eBadEnd_cm ?eBadEnd_fl ?eBadEnd_fc ?eBadEnd_fk ?eBadEnd_s_HouseError ?eBadEnd_s_BadBit ?eBadEnd_s_BadFate ?eBadEnd_s_ValueError ?eBadFate_eB ?eBadFate_tC ?eBadFate_hd ?eBadFate_sC ?eBadFate_xL ?eBadFate_sa ?eBadFate_ga ?eBadFate_gg ?eBadFate_no ?eBadFate_in ?eBadFate_ti ?eBadFate_kc ?eBadFate_ca ?eBadFate_cb ?eBadFate_cc ?eBadFate_cm ?eBadFate_fl ?eBadFate_fc ?eBadFate_fk ?eBadFate_s_HouseError ?eBadFate_s_BadBit ?eBadFate_s_BadEnd ?eBadFate_s_ValueError ?zc_ENDS ?zk_ENDS ?zc_FATES ?zc_ARRIVING ?zk_ARRIVING ?zh0_ARRIVING ?zn0_ARRIVING ?zh1_ARRIVING ?zn1_ARRIVING ?a0 ?i0 ?l0 ?c0 ?k0 ?a1 ?i1 ?l1 ?c1 ?k1 ?a2 ?l2 ?c2 ?k2 ?a3 ?l3 ?c3 ?k3 ?a4 ?l4 ?c4 ?k4 ?a5 ?l5 ?c5 ?k5 ?a6 ?l6 ?c6 ?k6 ?a7 ?l7 ?c7 ?k7 ?a8 ?l8 ?c8 ?k8 ?a9 ?l9 ?c9 ?k9 ?a10 ?l10 ?c10 ?k10 ?a11 ?l11 ?c11 ?k11 ?a12 ?l12 ?c12 ?k12 ?a13 ?l13 ?c13 ?k13 ?a14 ?l14 ?c14 ?k14 ?a15 ?l15 ?c15 ?k15 ?a16 ?l16 ?c16 ?k16 ?a17 ?l17 ?c17 ?k17 ?a18 ?i18 ?l18 ?c18 ?k18 ?a19 ?i19 ?l19 ?c19 ?k19 ?a20 ?l20 ?c20 ?k20 ?a21 ?l21 ?c21 ?k21 ?a22 ?l22 ?c22 ?k22 ?a23 ?l23 ?c23 ?k23 ?a24 ?l24 ?c24 ?k24 ?z_isinstance ?z_len ?z_int ?z_abs ?z_range ?z_bool ?z_tuple ?z_str ?z_enumerate ?z_ValueError
    (case qExchange_aC => k_is); (case qExchange_pg => k_is); (case qExchange_hd => k_is); (case qExchange_po => k_is); (case qExchange_sa => k_is); (case qExchange_mk => k_is); (case qExchange_kc => k_is); (case qExchange_sf => k_is); (case qExchange_nf => k_is); (case qExchange_ia => k_is); (case qExchange_ib => k_is); (case qExchange_ic => k_is); (case qExchange_im => k_is); (case qExchange_n_first_bit => k_is); (case qExchange_n_second_bit => k_is); (case qExchange_n_fates => k_is); (case eHouseError_aC => k_is); (case eBadBit_aC => k_is); (case eBadEnd_aC => k_is); (case eBadFate_aC => k_is); (case eHouseError_eB => k_is); (case eHouseError_tC => k_is); (case eHouseError_hd => k_is); (case eHouseError_sC => k_is); (case eBadBit_eB => k_is); (case eBadBit_tC => k_is); (case eBadBit_hd => k_is); (case eBadBit_sC => k_is); (case eBadBit_xL => k_is); (case eBadBit_sa => k_is); (case eBadBit_ga => k_is); (case eBadBit_gg => k_is); (case eBadBit_no => k_is); (case eBadBit_in => k_is); (case eBadBit_ti => k_is); (case eBadBit_kc => k_is); (case eBadBit_ca => k_is); (case eBadBit_cb => k_is); (case eBadBit_cc => k_is); (case eBadBit_cm => k_is); (case eBadBit_fl => k_is); (case eBadBit_fc => k_is); (case eBadBit_fk => k_is); (case eBadBit_s_HouseError => k_is); (case eBadBit_s_BadEnd => k_is); (case eBadBit_s_BadFate => k_is); (case eBadBit_s_ValueError => k_is); (case eBadEnd_eB => k_is); (case eBadEnd_tC => k_is); (case eBadEnd_hd => k_is); (case eBadEnd_sC => k_is); (case eBadEnd_xL => k_is); (case eBadEnd_sa => k_is); (case eBadEnd_ga => k_is); (case eBadEnd_gg => k_is); (case eBadEnd_no => k_is); (case eBadEnd_in => k_is); (case eBadEnd_ti => k_is); (case eBadEnd_kc => k_is); (case eBadEnd_ca => k_is); (case eBadEnd_cb => k_is); (case eBadEnd_cc => k_is); (case eBadEnd_cm => k_is); (case eBadEnd_fl => k_is); (case eBadEnd_fc => k_is); (case eBadEnd_fk => k_is); (case eBadEnd_s_HouseError => k_is); (case eBadEnd_s_BadBit => k_is); (case eBadEnd_s_BadFate => k_is); (case eBadEnd_s_ValueError => k_is); (case eBadFate_eB => k_is); (case eBadFate_tC => k_is); (case eBadFate_hd => k_is); (case eBadFate_sC => k_is); (case eBadFate_xL => k_is); (case eBadFate_sa => k_is); (case eBadFate_ga => k_is); (case eBadFate_gg => k_is); (case eBadFate_no => k_is); (case eBadFate_in => k_is); (case eBadFate_ti => k_is); (case eBadFate_kc => k_is); (case eBadFate_ca => k_is); (case eBadFate_cb => k_is); (case eBadFate_cc => k_is); (case eBadFate_cm => k_is); (case eBadFate_fl => k_is); (case eBadFate_fc => k_is); (case eBadFate_fk => k_is); (case eBadFate_s_HouseError => k_is); (case eBadFate_s_BadBit => k_is); (case eBadFate_s_BadEnd => k_is); (case eBadFate_s_ValueError => k_is); (case zc_ENDS => k_is); (case zk_ENDS => k_is); (case zc_FATES => k_is); (case zc_ARRIVING => k_is); (case zk_ARRIVING => k_is); (case zh0_ARRIVING => rfl); (case zn0_ARRIVING => k_is); (case zh1_ARRIVING => rfl); (case zn1_ARRIVING => k_is); (case a0 => k_is); (case i0 => k_is); (case l0 => k_is); (case c0 => k_is); (case k0 => k_is); (case a1 => k_is); (case i1 => k_is); (case l1 => k_is); (case c1 => k_is); (case k1 => k_is); (case a2 => k_is); (case l2 => k_is); (case c2 => k_is); (case k2 => k_is); (case a3 => k_is); (case l3 => k_is); (case c3 => k_is); (case k3 => k_is); (case a4 => k_is); (case l4 => k_is); (case c4 => k_is); (case k4 => k_is); (case a5 => k_is); (case l5 => k_is); (case c5 => k_is); (case k5 => k_is); (case a6 => k_is); (case l6 => k_is); (case c6 => k_is); (case k6 => k_is); (case a7 => k_is); (case l7 => k_is); (case c7 => k_is); (case k7 => k_is); (case a8 => k_is); (case l8 => k_is); (case c8 => k_is); (case k8 => k_is); (case a9 => k_is); (case l9 => k_is); (case c9 => k_is); (case k9 => k_is); (case a10 => k_is); (case l10 => k_is); (case c10 => k_is); (case k10 => k_is); (case a11 => k_is); (case l11 => k_is); (case c11 => k_is); (case k11 => k_is); (case a12 => k_is); (case l12 => k_is); (case c12 => k_is); (case k12 => k_is); (case a13 => k_is); (case l13 => k_is); (case c13 => k_is); (case k13 => k_is); (case a14 => k_is); (case l14 => k_is); (case c14 => k_is); (case k14 => k_is); (case a15 => k_is); (case l15 => k_is); (case c15 => k_is); (case k15 => k_is); (case a16 => k_is); (case l16 => k_is); (case c16 => k_is); (case k16 => k_is); (case a17 => k_is); (case l17 => k_is); (case c17 => k_is); (case k17 => k_is); (case a18 => k_is); (case i18 => k_is); (case l18 => k_is); (case c18 => k_is); (case k18 => k_is); (case a19 => k_is); (case i19 => k_is); (case l19 => k_is); (case c19 => k_is); (case k19 => k_is); (case a20 => k_is); (case l20 => k_is); (case c20 => k_is); (case k20 => k_is); (case a21 => k_is); (case l21 => k_is); (case c21 => k_is); (case k21 => k_is); (case a22 => k_is); (case l22 => k_is); (case c22 => k_is); (case k22 => k_is); (case a23 => k_is); (case l23 => k_is); (case c23 => k_is); (case k23 => k_is); (case a24 => k_is); (case l24 => k_is); (case c24 => k_is); (case k24 => k_is); (case z_isinstance => k_is); (case z_len => k_is); (case z_int => k_is); (case z_abs => k_is); (case z_range => k_is); (case z_bool => k_is); (case z_tuple => k_is); (case z_str => k_is); (case z_enumerate => k_is); (case z_ValueError => k_is)

