import PyProof.Rows.All
import Wide.All
import OpenK.AllK
import Wide.FinOn
import HandS.ForMost
import HandS.Wide
import HandS.Gcd
import HandS.Flow
import HandS.Style
import HandS.Zip
import HandS.TupAny
import HandS.TupMul
import HandS.IsInst
import HandS.Defaults
import KE.DataIsa
import KE.DataMinMax
import KE.DataAny
import KE.SortUse
import KE.SortData
import PyProof.ReprRoads
import HandS.TupLe
import KE.KTupSum
import HandS.SortInts
import KE.KRevSl
import KE.GoesEnum
import HandS.WordsExc
import PySem.Challenge.RW_fairqueue_k09_busy_stretches_whatever_th
set_option Elab.async false
set_option linter.all false
set_option maxRecDepth 100000
set_option maxHeartbeats 2000000
/-! SLIM 1: data over the abstract heap. -/
namespace Slim
open PySem L2

abbrev D := PyData


/-- what is tracked and not bad stays -/
def Kp (bad : Addr → Prop) (H H' : Hp) : Prop := ∀ b o, H b = some o → ¬ bad b → H' b = some o
theorem Kp.refl {bad : Addr → Prop} {H : Hp} : Kp bad H H := fun _ _ h _ => h
theorem Kp.trans {bad : Addr → Prop} {H H1 H2 : Hp} (a : Kp bad H H1) (b : Kp bad H1 H2) : Kp bad H H2 := fun c o h n => b c o (a c o h n) n
theorem Kp.new {bad : Addr → Prop} {H : Hp} {p : Addr} {o : HO} (h : H p = none) : Kp bad H (upd H p o) := fun b u e _ => by
  rw [upd_ne (ne_of_none e h)]; exact e
theorem Kp.mono {bad bad' : Addr → Prop} {H H' : Hp} (k : Kp bad H H') (m : ∀ a, bad a → bad' a) : Kp bad' H H' := fun b o h n => k b o h fun z => n (m b z)
theorem Kp.back {bad : Addr → Prop} {H H' : Hp} {p : Addr} (k : Kp bad H H') (n : ¬ bad p) (h : H' p = none) : H p = none := by
  cases e : H p with
  | none => rfl
  | some o => rw [k p o e n] at h; cases h

/-! what is read of a tuple, a made one or a fixed one -/
theorem rd_kp {bad : Addr → Prop} {H H' : Hp} {a : Addr} {u : HO} (r : Rd H a u) (k : Kp bad H H') (n : ¬ bad a) : Rd H' a u := by
  rcases r with h | ⟨o, h⟩
  · exact .inl (k _ _ h n)
  · exact .inr ⟨o, k _ _ h n⟩
theorem rd_not {H : Hp} {a : Addr} {u : HO} (e : H a = none) (r : Rd H a u) : False := by
  rcases r with h | ⟨o, h⟩ <;> (rw [e] at h; cases h)
theorem rd_inj {H : Hp} {a : Addr} {xs ys : List V} (r : Rd H a (.tup xs)) (q : Rd H a (.tup ys)) : xs = ys := by
  rcases r with h | ⟨o, h⟩ <;> rcases q with h' | ⟨o', h'⟩ <;> (rw [h] at h'; cases h') <;> rfl
theorem rd_lst {H : Hp} {a : Addr} {xs ys : List V} (r : Rd H a (.tup xs)) (q : H a = some (.lst ys)) : False := by
  rcases r with h | ⟨o, h⟩ <;> (rw [h] at q; cases q)
theorem rd_dct {H : Hp} {a : Addr} {xs : List V} {ys : List (Key × V)} (r : Rd H a (.tup xs)) (q : H a = some (.dK ys)) : False := by
  rcases r with h | ⟨o, h⟩ <;> (rw [h] at q; cases q)

/-- no tuple -/
def NT (o : HO) : Prop := ∀ xs, o ≠ .tup xs ∧ ∀ ob, o ≠ .frz ob (.tup xs)
theorem NT.no {H : Hp} {a : Addr} {o : HO} {xs : List V} (n : NT o) (h : H a = some o) (r : Rd H a (.tup xs)) : False := by
  rcases r with q | ⟨ob, q⟩
  · rw [h] at q; cases q; exact (n xs).1 rfl
  · rw [h] at q; cases q; exact (n xs).2 ob rfl
theorem nt_lst {xs : List V} : NT (.lst xs) := fun _ => ⟨fun z => (nomatch z), fun _ z => (nomatch z)⟩
theorem nt_dct {xs : List (Key × V)} : NT (.dK xs) := fun _ => ⟨fun z => (nomatch z), fun _ z => (nomatch z)⟩
theorem nt_frz {o : Obj} {xs : List V} : NT (.frz o (.lst xs)) := fun _ => ⟨fun z => (nomatch z), fun _ z => (nomatch z)⟩

/-- an int | a text as a datum -/
def keyD : Key → D
  | .inl i => .int i
  | .inr x => .str x

mutual
inductive Rep (bad : Addr → Prop) (H : Hp) : V → D → Prop
  | non : Rep bad H .non .none
  | bl (b : Bool) : Rep bad H (.bl b) (.bool b)
  | int (i : Int) : Rep bad H (.int i) (.int i)
  | str (x : Str) : Rep bad H (.str x) (.str x)
  | lst {a : Addr} {xs : List V} {ds : List D} : ¬ bad a → H a = some (.lst xs) → RepAll bad H xs ds → Rep bad H (.ref a) (.list ds)
  | tup {a : Addr} {xs : List V} {ds : List D} : ¬ bad a → Rd H a (.tup xs) → RepAll bad H xs ds → Rep bad H (.ref a) (.tuple ds)
  | dct {a : Addr} {kvs : List (Key × V)} {ks : List (D × D)} : ¬ bad a → H a = some (.dK kvs) → RepKv bad H kvs ks → Rep bad H (.ref a) (.dict ks)
inductive RepAll (bad : Addr → Prop) (H : Hp) : List V → List D → Prop
  | nil : RepAll bad H [] []
  | cons {v : V} {vs : List V} {d : D} {ds : List D} : Rep bad H v d → RepAll bad H vs ds → RepAll bad H (v :: vs) (d :: ds)
inductive RepKv (bad : Addr → Prop) (H : Hp) : List (Key × V) → List (D × D) → Prop
  | nil : RepKv bad H [] []
  | cons {k : Key} {v : V} {r : List (Key × V)} {d : D} {ds : List (D × D)} : Rep bad H v d → RepKv bad H r ds → RepKv bad H ((k, v) :: r) ((keyD k, d) :: ds)
end

section
variable {bad bad' : Addr → Prop} {H H' : Hp}
mutual
theorem Rep.move (m : ∀ a, bad' a → bad a) (k : Kp bad H H') : ∀ {v : V} {d : D}, Rep bad H v d → Rep bad' H' v d
  | _, _, .non => .non
  | _, _, .bl b => .bl b
  | _, _, .int i => .int i
  | _, _, .str x => .str x
  | _, _, .lst n h r => .lst (fun z => n (m _ z)) (k _ _ h n) (RepAll.move m k r)
  | _, _, .tup n h r => .tup (fun z => n (m _ z)) (rd_kp h k n) (RepAll.move m k r)
  | _, _, .dct n h r => .dct (fun z => n (m _ z)) (k _ _ h n) (RepKv.move m k r)
theorem RepAll.move (m : ∀ a, bad' a → bad a) (k : Kp bad H H') : ∀ {vs : List V} {ds : List D}, RepAll bad H vs ds → RepAll bad' H' vs ds
  | _, _, .nil => .nil
  | _, _, .cons a r => .cons (Rep.move m k a) (RepAll.move m k r)
theorem RepKv.move (m : ∀ a, bad' a → bad a) (k : Kp bad H H') : ∀ {vs : List (Key × V)} {ds : List (D × D)}, RepKv bad H vs ds → RepKv bad' H' vs ds
  | _, _, .nil => .nil
  | _, _, .cons a r => .cons (Rep.move m k a) (RepKv.move m k r)
end
theorem Rep.keep {v : V} {d : D} (r : Rep bad H v d) (k : Kp bad H H') : Rep bad H' v d := r.move (fun _ z => z) k
theorem RepAll.keep {v : List V} {d : List D} (r : RepAll bad H v d) (k : Kp bad H H') : RepAll bad H' v d := r.move (fun _ z => z) k
theorem RepKv.keep {v : List (Key × V)} {d : List (D × D)} (r : RepKv bad H v d) (k : Kp bad H H') : RepKv bad H' v d := r.move (fun _ z => z) k
theorem Rep.less {v : V} {d : D} (r : Rep bad H v d) (m : ∀ a, bad' a → bad a) : Rep bad' H v d := r.move m Kp.refl
theorem RepAll.less {v : List V} {d : List D} (r : RepAll bad H v d) (m : ∀ a, bad' a → bad a) : RepAll bad' H v d := r.move m Kp.refl
theorem RepAll.length : ∀ {vs : List V} {ds : List D}, RepAll bad H vs ds → vs.length = ds.length
  | _, _, .nil => rfl
  | _, _, .cons _ r => by simp [RepAll.length r]
theorem RepKv.length : ∀ {vs : List (Key × V)} {ds : List (D × D)}, RepKv bad H vs ds → vs.length = ds.length
  | _, _, .nil => rfl
  | _, _, .cons _ r => by simp [RepKv.length r]
theorem RepAll.get : ∀ {vs : List V} {ds : List D} {i : Nat} {d : D}, RepAll bad H vs ds → ds[i]? = some d → ∃ v, vs[i]? = some v ∧ Rep bad H v d
  | _, _, _, _, .nil, e => by simp at e
  | _, _, 0, _, .cons r _, e => by simp at e; subst e; exact ⟨_, rfl, r⟩
  | _, _, i + 1, d, .cons _ t, e => by
    obtain ⟨v, h1, h2⟩ := RepAll.get (i := i) (d := d) t (by simpa using e)
    exact ⟨v, by simpa using h1, h2⟩
theorem RepAll.get' : ∀ {vs : List V} {ds : List D} {i : Nat} {v : V}, RepAll bad H vs ds → vs[i]? = some v → ∃ d, ds[i]? = some d ∧ Rep bad H v d
  | _, _, _, _, .nil, e => by simp at e
  | _, _, 0, _, .cons r _, e => by simp at e; subst e; exact ⟨_, rfl, r⟩
  | _, _, i + 1, d, .cons _ t, e => by
    obtain ⟨v, h1, h2⟩ := RepAll.get' (i := i) (v := d) t (by simpa using e)
    exact ⟨v, by simpa using h1, h2⟩
theorem RepAll.append : ∀ {vs ws : List V} {ds es : List D}, RepAll bad H vs ds → RepAll bad H ws es → RepAll bad H (vs ++ ws) (ds ++ es)
  | _, _, _, _, .nil, s => s
  | _, _, _, _, .cons r t, s => .cons r (RepAll.append t s)
theorem RepAll.take : ∀ {vs : List V} {ds : List D} (n : Nat), RepAll bad H vs ds → RepAll bad H (vs.take n) (ds.take n)
  | _, _, 0, _ => .nil
  | _, _, _ + 1, .nil => .nil
  | _, _, n + 1, .cons r t => .cons r (RepAll.take n t)
theorem RepAll.drop : ∀ {vs : List V} {ds : List D} (n : Nat), RepAll bad H vs ds → RepAll bad H (vs.drop n) (ds.drop n)
  | _, _, 0, r => r
  | _, _, _ + 1, .nil => .nil
  | _, _, n + 1, .cons _ t => RepAll.drop n t
theorem RepAll.set {v : V} {d : D} (r : Rep bad H v d) : ∀ {vs : List V} {ds : List D} (i : Nat), RepAll bad H vs ds → RepAll bad H (vs.set i v) (ds.set i d)
  | _, _, _, .nil => .nil
  | _, _, 0, .cons _ t => .cons r t
  | _, _, i + 1, .cons q t => .cons q (RepAll.set r i t)
theorem RepAll.erase : ∀ {vs : List V} {ds : List D} (i : Nat), RepAll bad H vs ds → RepAll bad H (vs.eraseIdx i) (ds.eraseIdx i)
  | _, _, _, .nil => .nil
  | _, _, 0, .cons _ t => t
  | _, _, i + 1, .cons q t => .cons q (RepAll.erase i t)
theorem RepAll.rev : ∀ {vs : List V} {ds : List D}, RepAll bad H vs ds → RepAll bad H vs.reverse ds.reverse
  | _, _, .nil => .nil
  | _, _, .cons r t => by
    rw [List.reverse_cons, List.reverse_cons]
    exact RepAll.append (RepAll.rev t) (.cons r .nil)
theorem RepAll.dropLast {vs : List V} {ds : List D} (h : RepAll bad H vs ds) : RepAll bad H vs.dropLast ds.dropLast := by
  rw [List.dropLast_eq_take, List.dropLast_eq_take, h.length]
  exact h.take _
theorem RepAll.rep {v : List V} {d : List D} (r : RepAll bad H v d) : ∀ n : Nat, RepAll bad H (List.replicate n v).flatten (List.replicate n d).flatten
  | 0 => .nil
  | n + 1 => by
    rw [List.replicate_succ, List.replicate_succ, List.flatten_cons, List.flatten_cons]
    exact r.append (RepAll.rep r n)
theorem RepAll.ints : ∀ {vs : List V} {ns : List Int}, RepAll bad H vs (ns.map PyData.int) → vs = ns.map V.int
  | [], [], _ => rfl
  | _ :: _, [], h => by cases h
  | [], _ :: _, h => by cases h
  | v :: vs, n :: ns, h => by
    cases h with
    | cons a r =>
      cases a
      rw [RepAll.ints r]
      rfl
theorem RepAll.bools : ∀ {vs : List V} {ns : List Bool}, RepAll bad H vs (ns.map PyData.bool) → vs = ns.map V.bl
  | [], [], _ => rfl
  | _ :: _, [], h => by cases h
  | [], _ :: _, h => by cases h
  | v :: vs, n :: ns, h => by
    cases h with
    | cons a r =>
      cases a
      rw [RepAll.bools r]
      rfl
theorem RepAll.of_ints : ∀ (ns : List Int), RepAll bad H (ns.map V.int) (ns.map PyData.int)
  | [] => .nil
  | n :: ns => .cons (.int n) (RepAll.of_ints ns)

section
variable (m : ∀ a, bad' a → bad a ∨ H a = none)
include m
mutual

/-- what stands, stands apart from new addresses -/
theorem Rep.more : ∀ {v : V} {d : D}, Rep bad H v d → Rep bad' H v d
  | _, _, .non => .non
  | _, _, .bl b => .bl b
  | _, _, .int i => .int i
  | _, _, .str x => .str x
  | _, _, .lst n h r => .lst (fun z => (m _ z).elim n fun e => by rw [e] at h; cases h) h (RepAll.more r)
  | _, _, .tup n h r => .tup (fun z => (m _ z).elim n fun e => rd_not e h) h (RepAll.more r)
  | _, _, .dct n h r => .dct (fun z => (m _ z).elim n fun e => by rw [e] at h; cases h) h (RepKv.more r)
theorem RepAll.more : ∀ {v : List V} {d : List D}, RepAll bad H v d → RepAll bad' H v d
  | _, _, .nil => .nil
  | _, _, .cons a r => .cons (Rep.more a) (RepAll.more r)
theorem RepKv.more : ∀ {v : List (Key × V)} {d : List (D × D)}, RepKv bad H v d → RepKv bad' H v d
  | _, _, .nil => .nil
  | _, _, .cons a r => .cons (Rep.more a) (RepKv.more r)
end
end

/-! no list and no dict lies within -/
mutual
def noMut : D → Bool
  | .none | .bool _ | .int _ | .str _ => true
  | .list _ => false
  | .dict _ => false
  | .tuple xs => noMutAll xs
def noMutAll : List D → Bool
  | [] => true
  | x :: xs => noMut x && noMutAll xs
end
mutual
theorem Rep.wide (t : ∀ a xs, Rd H a (.tup xs) → ¬ bad' a) : ∀ {v : V} {d : D}, noMut d = true → Rep bad H v d → Rep bad' H v d
  | _, _, _, .non => .non
  | _, _, _, .bl b => .bl b
  | _, _, _, .int i => .int i
  | _, _, _, .str x => .str x
  | _, _, h, .lst _ _ _ => by simp [noMut] at h
  | _, _, h, .dct _ _ _ => by simp [noMut] at h
  | _, _, h, .tup _ e r => .tup (t _ _ e) e (RepAll.wide t (by simpa [noMut] using h) r)
theorem RepAll.wide (t : ∀ a xs, Rd H a (.tup xs) → ¬ bad' a) : ∀ {v : List V} {d : List D}, noMutAll d = true → RepAll bad H v d → RepAll bad' H v d
  | _, _, _, .nil => .nil
  | _, _, h, .cons a r => by
    simp only [noMutAll, Bool.and_eq_true] at h
    exact .cons (Rep.wide t h.1 a) (RepAll.wide t h.2 r)
end
end

/-! a list is not within itself -/
theorem keyD_inj {a b : Key} (h : keyD a = keyD b) : a = b := by
  cases a <;> cases b <;> simp [keyD] at h <;> simp [h]
section
variable {bad bad' : Addr → Prop} {H : Hp}
mutual
theorem Rep.uniq : ∀ {v : V} {d d' : D}, Rep bad H v d → Rep bad' H v d' → d = d'
  | _, _, _, .non, .non => rfl
  | _, _, _, .bl _, .bl _ => rfl
  | _, _, _, .int _, .int _ => rfl
  | _, _, _, .str _, .str _ => rfl
  | _, _, _, .lst _ h r, .lst _ h' r' => by
    rw [h] at h'; cases h'
    rw [RepAll.uniq r r']
  | _, _, _, .tup _ h r, .tup _ h' r' => by
    cases rd_inj h h'
    rw [RepAll.uniq r r']
  | _, _, _, .dct _ h r, .dct _ h' r' => by
    rw [h] at h'; cases h'
    rw [RepKv.uniq r r']
  | _, _, _, .lst _ h r, .tup _ h' r' => (rd_lst h' h).elim
  | _, _, _, .lst _ h r, .dct _ h' r' => by rw [h] at h'; cases h'
  | _, _, _, .tup _ h r, .lst _ h' r' => (rd_lst h h').elim
  | _, _, _, .tup _ h r, .dct _ h' r' => (rd_dct h h').elim
  | _, _, _, .dct _ h r, .lst _ h' r' => by rw [h] at h'; cases h'
  | _, _, _, .dct _ h r, .tup _ h' r' => (rd_dct h' h).elim
theorem RepAll.uniq : ∀ {v : List V} {d d' : List D}, RepAll bad H v d → RepAll bad' H v d' → d = d'
  | _, _, _, .nil, .nil => rfl
  | _, _, _, .cons a r, .cons a' r' => by rw [Rep.uniq a a', RepAll.uniq r r']
theorem RepKv.uniq : ∀ {v : List (Key × V)} {d d' : List (D × D)}, RepKv bad H v d → RepKv bad' H v d' → d = d'
  | _, _, _, .nil, .nil => rfl
  | _, _, _, .cons a r, .cons a' r' => by rw [Rep.uniq a a', RepKv.uniq r r']
end
mutual
theorem Rep.small {p : Addr} {L : D} (hL : ∀ d, Rep bad H (.ref p) d → d = L) : ∀ {v : V} {d : D}, sizeOf d < sizeOf L → Rep bad H v d → Rep (fun a => bad a ∨ a = p) H v d
  | _, _, _, .non => .non
  | _, _, _, .bl b => .bl b
  | _, _, _, .int i => .int i
  | _, _, _, .str x => .str x
  | .ref a, .list ds, hs, .lst n h r => .lst (fun z => z.elim n fun e => by
      have := hL (.list ds) (by rw [← e]; exact .lst n h r)
      rw [this] at hs
      exact Nat.lt_irrefl _ hs) h (RepAll.small hL (Nat.lt_trans (by simp [PyData.list.sizeOf_spec]) hs) r)
  | .ref a, .tuple ds, hs, .tup n h r => .tup (fun z => z.elim n fun e => by
      have := hL (.tuple ds) (by rw [← e]; exact .tup n h r)
      rw [this] at hs
      exact Nat.lt_irrefl _ hs) h (RepAll.small hL (Nat.lt_trans (by simp [PyData.tuple.sizeOf_spec]) hs) r)
  | .ref a, .dict ks, hs, .dct n h r => .dct (fun z => z.elim n fun e => by
      have := hL (.dict ks) (by rw [← e]; exact .dct n h r)
      rw [this] at hs
      exact Nat.lt_irrefl _ hs) h (RepKv.small hL (Nat.lt_trans (by simp [PyData.dict.sizeOf_spec]) hs) r)
theorem RepAll.small {p : Addr} {L : D} (hL : ∀ d, Rep bad H (.ref p) d → d = L) : ∀ {v : List V} {d : List D}, sizeOf d < sizeOf L → RepAll bad H v d → RepAll (fun a => bad a ∨ a = p) H v d
  | _, _, _, .nil => .nil
  | _ :: _, _ :: _, hs, .cons a r => .cons (Rep.small hL (Nat.lt_trans (by simp [List.cons.sizeOf_spec]; omega) hs) a) (RepAll.small hL (Nat.lt_trans (by simp [List.cons.sizeOf_spec]; omega) hs) r)
theorem RepKv.small {p : Addr} {L : D} (hL : ∀ d, Rep bad H (.ref p) d → d = L) : ∀ {v : List (Key × V)} {d : List (D × D)}, sizeOf d < sizeOf L → RepKv bad H v d → RepKv (fun a => bad a ∨ a = p) H v d
  | _, _, _, .nil => .nil
  | _ :: _, _ :: _, hs, .cons a r => .cons (Rep.small hL (Nat.lt_trans (by simp [List.cons.sizeOf_spec, Prod.mk.sizeOf_spec]; omega) hs) a) (RepKv.small hL (Nat.lt_trans (by simp [List.cons.sizeOf_spec]; omega) hs) r)
end
section
variable {H1 : Hp} {p : Addr} (hp : H p = none) (kk : Kp bad H H1)
include hp kk
mutual

/-- what stood before p came is apart from it -/
theorem Rep.older : ∀ {v : V} {d d' : D}, Rep bad H v d → Rep bad' H1 v d' → Rep (fun a => bad' a ∨ a = p) H1 v d'
  | _, _, _, .non, .non => .non
  | _, _, _, .bl _, .bl _ => .bl _
  | _, _, _, .int _, .int _ => .int _
  | _, _, _, .str _, .str _ => .str _
  | _, _, _, .lst n h r, .lst n' h' r' => .lst (fun z => z.elim n' fun e => by rw [e, hp] at h; cases h) h' (by rw [kk _ _ h n] at h'; cases h'; exact RepAll.older r r')
  | _, _, _, .tup n h r, .tup n' h' r' => .tup (fun z => z.elim n' fun e => rd_not (by rw [e]; exact hp) h) h' (by cases rd_inj (rd_kp h kk n) h'; exact RepAll.older r r')
  | _, _, _, .dct n h r, .dct n' h' r' => .dct (fun z => z.elim n' fun e => by rw [e, hp] at h; cases h) h' (by rw [kk _ _ h n] at h'; cases h'; exact RepKv.older r r')
  | _, _, _, .lst n h r, .tup _ h' r' => (rd_lst h' (kk _ _ h n)).elim
  | _, _, _, .lst n h r, .dct _ h' r' => by rw [kk _ _ h n] at h'; cases h'
  | _, _, _, .tup n h r, .lst _ h' r' => (rd_lst (rd_kp h kk n) h').elim
  | _, _, _, .tup n h r, .dct _ h' r' => (rd_dct (rd_kp h kk n) h').elim
  | _, _, _, .dct n h r, .lst _ h' r' => by rw [kk _ _ h n] at h'; cases h'
  | _, _, _, .dct n h r, .tup _ h' r' => (rd_dct h' (kk _ _ h n)).elim
theorem RepAll.older : ∀ {v : List V} {d d' : List D}, RepAll bad H v d → RepAll bad' H1 v d' → RepAll (fun a => bad' a ∨ a = p) H1 v d'
  | _, _, _, .nil, .nil => .nil
  | _, _, _, .cons a r, .cons a' r' => .cons (Rep.older a a') (RepAll.older r r')
theorem RepKv.older : ∀ {v : List (Key × V)} {d d' : List (D × D)}, RepKv bad H v d → RepKv bad' H1 v d' → RepKv (fun a => bad' a ∨ a = p) H1 v d'
  | _, _, _, .nil, .nil => .nil
  | _, _, _, .cons a r, .cons a' r' => .cons (Rep.older a a') (RepKv.older r r')
end
end

/-- the items of a list are apart from it -/
theorem RepAll.self {p : Addr} {xs : List V} {ds : List D} (n : ¬ bad p) (h : H p = some (.lst xs)) (r : RepAll bad H xs ds) : RepAll (fun a => bad a ∨ a = p) H xs ds :=
  RepAll.small (L := .list ds) (fun d q => Rep.uniq q (.lst n h r)) (by simp [PyData.list.sizeOf_spec]) r
end

/-! from the abstract heap to the machine's heap -/
theorem keyIs_reads {h : Heap} {k : Key} {v : Value} (e : keyIs k v = true) : Reads h v (keyD k) [] := by
  rcases keyIs_shape e with ⟨i, t, rfl, rfl⟩ | ⟨x, t, rfl, rfl⟩
  · exact .int i t
  · exact .str x t
section
variable {X : Cx} {pins : List (Addr × Obj)} {σ : L2.St} {H : Hp} {s : Shared} {bad : Addr → Prop}
theorem pairs_keys {P : Program} {w : World} {h : Heap} : ∀ {es : List DictEntry} {vs : List (Key × Value)}, PySem.Pairs (mixKind P w) es vs → ReadsAll h (es.map (·.key)) (vs.map fun p => keyD p.1) []
  | _, _, .nil => .nil
  | _, _, .cons a b r => ReadsAll.cons (as := []) (keyIs_reads a) (pairs_keys r)
theorem pairs_vals {P : Program} {w : World} : ∀ {es : List DictEntry} {vs : List (Key × Value)}, PySem.Pairs (mixKind P w) es vs → es.map (·.val) = vs.map (·.2)
  | _, _, .nil => rfl
  | _, _, .cons a b r => by simp [b, pairs_vals r]
theorem kv_split : ∀ {kvs : List (Key × V)} {vs : List (Key × Value)} {ks : List (D × D)}, KV kvs vs → RepKv bad H kvs ks →
    (vs.map fun p => keyD p.1) = ks.map (·.1) ∧ Vals (kvs.map (·.2)) (vs.map (·.2)) ∧ RepAll bad H (kvs.map (·.2)) (ks.map (·.2))
  | _, _, _, .nil, .nil => ⟨rfl, .nil, .nil⟩
  | _, _, _, .cons a r, .cons q z => by
    obtain ⟨h1, h2, h3⟩ := kv_split r z
    exact ⟨by
      have e := a.1
      simp only at e
      simp [h1, e], .cons a.2 h2, .cons q h3⟩
mutual
theorem Rep.reads (I : Inv X pins σ H s) : ∀ (d : D) (v : V) (u : Value), Rep bad H v d → RelV v u → ∃ as, Reads s.heap u d as
  | .none, _, _, h, r => by cases h; cases r; exact ⟨_, Reads.none⟩
  | .bool b, _, _, h, r => by cases h; cases r; exact ⟨_, Reads.bool b⟩
  | .int i, _, _, h, r => by cases h; obtain ⟨t, rfl⟩ := r; exact ⟨_, Reads.int i t⟩
  | .str x, _, _, h, r => by cases h; obtain ⟨t, rfl⟩ := r; exact ⟨_, Reads.str x t⟩
  | .list ds, _, _, h, r => by
    cases h with
    | lst hb hs ha =>
      cases r
      obtain ⟨_, its, n, rv, ho⟩ := I.hok _ _ hs
      obtain ⟨as, hr⟩ := RepAll.reads I ds _ its ha rv
      exact ⟨_, Reads.list ho rfl rfl (by simpa using hr)⟩
  | .tuple ds, _, _, h, r => by
    cases h with
    | tup hb hs ha =>
      cases r
      obtain ⟨_, its, rv, o, ho, hc, n, hd⟩ := hs.ok I.hok
      obtain ⟨as, hr⟩ := RepAll.reads I ds _ its ha rv
      exact ⟨_, Reads.tuple ho hc hd (by simpa using hr)⟩
  | .dict ks, _, _, h, r => by
    cases h with
    | dct hb hs ha =>
      cases r
      obtain ⟨_, _, vs, rv, o, es, ep, ho, hx, hd, hk, hp, _⟩ := I.hok _ _ hs
      obtain ⟨h1, h2, h3⟩ := kv_split rv ha
      obtain ⟨bs, hr⟩ := RepKv.reads I ks _ _ h3 h2
      have hk' := pairs_keys (h := s.heap) hp
      rw [h1] at hk'
      rw [← pairs_vals hp] at hr
      exact ⟨_, Reads.dict ho hx.1 hd hk' hr⟩
theorem RepAll.reads (I : Inv X pins σ H s) : ∀ (ds : List D) (vs : List V) (us : List Value), RepAll bad H vs ds → Vals vs us → ∃ as, ReadsAll s.heap us ds as
  | [], _, _, h, r => by cases h; cases r; exact ⟨_, ReadsAll.nil⟩
  | d :: ds, _, _, h, r => by
    cases h with
    | cons h1 h2 =>
      cases r with
      | cons r1 r2 =>
        obtain ⟨as, q1⟩ := Rep.reads I d _ _ h1 r1
        obtain ⟨bs, q2⟩ := RepAll.reads I ds _ _ h2 r2
        exact ⟨_, ReadsAll.cons q1 q2⟩
theorem RepKv.reads (I : Inv X pins σ H s) : ∀ (ks : List (D × D)) (vs : List V) (us : List Value), RepAll bad H vs (ks.map (·.2)) → Vals vs us → ∃ as, ReadsAll s.heap us (ks.map (·.2)) as
  | [], _, _, h, r => by cases h; cases r; exact ⟨_, ReadsAll.nil⟩
  | (_, d) :: ds, _, _, h, r => by
    cases h with
    | cons h1 h2 =>
      cases r with
      | cons r1 r2 =>
        obtain ⟨as, q1⟩ := Rep.reads I d _ _ h1 r1
        obtain ⟨bs, q2⟩ := RepKv.reads I ds _ _ h2 r2
        exact ⟨_, ReadsAll.cons q1 q2⟩
end
end
end Slim

set_option Elab.async false
set_option linter.all false
set_option maxRecDepth 100000
set_option maxHeartbeats 2000000
/-! SLIM 2: the slim text and what it evaluates to. -/
namespace Slim
open PySem L2


/-- a state of the law's own beside the data (its deck): where it is held, what is not to be touched by others -/
structure GS where
  G : Type
  I : Type
  ok : I → G → Hp → Prop
  val : I → V
  bad : I → Addr → Prop
  chg : ∀ i g H a, ok i g H → bad i a → ∃ o, H a = some o ∧ NT o
  stay : ∀ i g H H', ok i g H → (∀ a o, bad i a → H a = some o → H' a = some o) → ok i g H'

  /-- constants of the modules -/
  cs : Str → Option (Addr × D)
  /-- the script, where it is held: a list of the module's or of nobody's -/
  K : PySem.W.Frag
  cut : G → Option (List Int)
  cutOk : ∀ i g H ns, ok i g H → cut g = some ns → ∃ a, val i = .ref a ∧ SqL K H a (ns.map V.int)
  loc : I → Str → Addr
  num : G → Str → Option Int
  lst : G → Str → Option (List Int)
  put : G → Str → Int → Option G
  putl : G → Str → List Int → Option G
  numOk : ∀ i g H key n, ok i g H → num g key = some n → ∃ p kvs, val i = .ref p ∧ H p = some (.dK kvs) ∧ valV kvs (.inr key) = some (.int n)
  lstOk : ∀ i g H key ns, ok i g H → lst g key = some ns → ∃ p kvs, val i = .ref p ∧ H p = some (.dK kvs) ∧ valV kvs (.inr key) = some (.ref (loc i key)) ∧ H (loc i key) = some (.lst (ns.map V.int))
  putOk : ∀ i g H key n g', ok i g H → put g key n = some g' → ∃ p kvs, val i = .ref p ∧ bad i p ∧ H p = some (.dK kvs) ∧ kvs.length < sizeLine ∧ ok i g' (upd H p (.dK (putK kvs (.inr key) (.int n))))
  putlOk : ∀ i g H key ns g', ok i g H → putl g key ns = some g' → bad i (loc i key) ∧ ok i g' (upd H (loc i key) (.lst (ns.map V.int)))

inductive Res (S : GS) (α : Type) where
  | ok (a : α) (g : S.G)
  | ex (c : Str) (t : D) (g : S.G)
  | no

inductive Bop where | add | sub | mul | fdiv | mod | pow
  deriving DecidableEq
inductive Cop where | lt | le | gt | ge | eq | ne | is | isnt | isin | notin
  deriving DecidableEq

/-- built-in functions -/
inductive Bl where
  | len | sum | abs | int | repr | all | any | max2 | min2 | max1 | min1 | sorted | tuple | list | gcd
  | maxd (d : D) | mind (d : D)

/-- types that isinstance is asked about -/
inductive Ty where | int | bool | tuple | str


/-- targets: a slot, or a tuple of targets -/
inductive Tg where
  | nm (i : Nat)
  | tp (ts : Tg)
  | nil
  | cons (t ts : Tg)

inductive E where
  | var (i : Nat)
  | glob (x : Str)
  | lit (d : D)
  | bin (op : Bop) (a b : E)
  | neg (a : E)
  | cmp (op : Cop) (a b : E)
  | chn (o1 o2 : Cop) (a b c : E)
  | and (as : E)
  | or (as : E)
  | not (a : E)
  | ite (c a b : E)
  | tup (as : E)
  | lst (as : E)
  | nil
  | cons (a as : E)
  | idx (a b : E)
  | slc (a lo hi : E)
  | rev (a : E)
  | call (f : Str) (dk : Option Nat) (as : E)
  | callk (f : Str) (ks : List Str) (perm : List Nat) (as : E)
  | blt (f : Bl) (as : E)
  | isa (t : Ty) (a : E)
  | comp (own : List Nat) (tg : Tg) (it : E) (c : E) (el : E)
  | rng1 (a : E)
  | rng2 (a b : E)
  | enm (a : E)
  | zp (a b : E)
  | scut (j n : Nat)
  | gget (j : Nat) (key : Str)
  | gne (j : Nat) (key : Str)
  | gpop (j : Nat) (key : Str)
  | gapp (j : Nat) (key : Str) (a : E)

inductive S where
  | nil
  | cons (s r : S)
  | asg (i : Nat) (e : E)
  | par (is : List Nat) (as : E)
  | asgt (t : Tg) (e : E)
  | exp (e : E)
  | app (i : Nat) (e : E)
  | ext (i : Nat) (e : E)
  | popt (t : Tg) (i : Nat)
  | pmx (ts as : E)
  | set (i : Nat) (k e : E)
  | gset (j : Nat) (key : Str) (e : E)
  | ret (e : E)
  | retn
  | ife (c : E) (a b : S)
  | whl (c : E) (b : S)
  | for_ (t : Tg) (it : E) (b : S)
  | brk
  | cnt
  | pass
  | fail


/-- what stands in a slot: nothing, a datum, a list of the def's own (it may be changed), the deck -/
inductive SV where
  | un
  | dat (d : D)
  | own (ds : List D)
  | dk

/-! ### operations on data -/
instance (i j : Int) : Decidable (CMul i j) := by unfold CMul; infer_instance
instance (i j : Int) : Decidable (CMulW i j) := by unfold CMulW; infer_instance
instance (i j : Int) : Decidable (CPow i j) := by unfold CPow; infer_instance
def lim : Nat := 100000
def addD : D → D → Option D
  | .int i, .int j => some (.int (i + j))
  | .list xs, .list ys => if xs.length + ys.length ≤ lim then some (.list (xs ++ ys)) else none
  | .tuple xs, .tuple ys => if xs.length + ys.length ≤ lim then some (.tuple (xs ++ ys)) else none
  | .str x, .str y => if x.length + y.length ≤ lim then some (.str (x ++ y)) else none
  | _, _ => none
def subD : D → D → Option D
  | .int i, .int j => some (.int (i - j))
  | _, _ => none
def mulD : D → D → Option D
  | .int i, .int j => if CMul i j ∨ CMulW i j then some (.int (i * j)) else none
  | .list xs, .int k => if 0 ≤ k ∧ k ≤ 1000 ∧ xs.length ≤ 100 then some (.list (List.replicate k.toNat xs).flatten) else none
  | .tuple xs, .int k => if 1 ≤ k ∧ k ≤ 1000 ∧ xs.length ≤ 100 ∧ xs ≠ [] then some (.tuple (List.replicate k.toNat xs).flatten) else none
  | _, _ => none
def fdivD : D → D → Option D
  | .int i, .int j => if 0 < j ∧ j.natAbs.log2 < 9000 then some (.int (i / j)) else none
  | _, _ => none
def modD : D → D → Option D
  | .int i, .int j => if 0 < j then some (.int (i % j)) else none
  | _, _ => none
def powD : D → D → Option D
  | .int i, .int j => if CPow i j then some (.int (i ^ j.toNat)) else none
  | _, _ => none
def bop : Bop → D → D → Option D
  | .add => addD
  | .sub => subD
  | .mul => mulD
  | .fdiv => fdivD
  | .mod => modD
  | .pow => powD

def eqOk (a b : D) : Bool := a.plain && b.plain && decide (min a.depth b.depth ≤ 60)
def ltI (p : Int → Int → Bool) : D → D → Option Bool
  | .int i, .int j => some (p i j)
  | _, _ => none
def isD : D → D → Option Bool
  | .none, .none => some true
  | .bool a, .bool b => some (decide (a = b))
  | .none, _ => none
  | _, .none => some false
  | _, _ => none
def inD : D → D → Option Bool
  | a, .list xs => if eqOk a (.list xs) = true then some (xs.any fun d => PyData.eqv d a) else none
  | a, .tuple xs => if eqOk a (.tuple xs) = true then some (xs.any fun d => PyData.eqv d a) else none
  | _, _ => none
def eqD (a b : D) : Option Bool := if eqOk a b = true then some (PyData.eqv a b) else none
def cop : Cop → D → D → Option Bool
  | .lt => ltI fun i j => decide (i < j)
  | .le => ltI fun i j => decide (i ≤ j)
  | .gt => ltI fun i j => decide (j < i)
  | .ge => ltI fun i j => decide (j ≤ i)
  | .eq => eqD
  | .ne => fun a b => (eqD a b).map (!·)
  | .is => isD
  | .isnt => fun a b => (isD a b).map (!·)
  | .isin => inD
  | .notin => fun a b => (inD a b).map (!·)


/-- a value's truth -/
def tru : D → Option Bool
  | .none => some false
  | .bool b => some b
  | .int i => some (i != 0)
  | .str x => if x.length ≤ lim then some ((x.length : Int) != 0) else none
  | .list xs => some (!xs.isEmpty)
  | .tuple xs => some (!xs.isEmpty)
  | .dict ks => some (!ks.isEmpty)

def keyOf : D → Option Key
  | .int i => some (.inl i)
  | .str x => some (.inr x)
  | _ => none
def look (ks : List (D × D)) (k : Key) : Option D :=
  match ks with
  | [] => none
  | (d, v) :: r => if keyOf d = some k then some v else look r k
def idxD : D → D → Option D
  | .list xs, .int i => atI xs i
  | .tuple xs, .int i => atI xs i
  | .dict ks, k => match keyOf k with
    | some k => look ks k
    | none => none
  | _, _ => none
def cutD (xs : List D) (lo hi : Option Int) : List D := (xs.drop (HT.sIx xs.length 0 lo)).take (HT.sIx xs.length xs.length hi - HT.sIx xs.length 0 lo)
def slcD : D → Option Int → Option Int → Option D
  | .list xs, lo, hi => some (.list (cutD xs lo hi))
  | .tuple xs, lo, hi => some (.tuple (cutD xs lo hi))
  | _, _, _ => none
def intsOf : List D → Option (List Int)
  | [] => some []
  | .int i :: r => (intsOf r).map (i :: ·)
  | _ :: _ => none
def boolsOf : List D → Option (List Bool)
  | [] => some []
  | .bool i :: r => (boolsOf r).map (i :: ·)
  | _ :: _ => none
def seqOf : D → Option (List D)
  | .list xs => some xs
  | .tuple xs => some xs
  | _ => none
def maxI : List Int → Option Int
  | [] => none
  | n :: ns => some (ns.foldl max n)
def minI : List Int → Option Int
  | [] => none
  | n :: ns => some (ns.foldl min n)
def showOk (d : D) : Bool := d.showable && !d.hasDict && decide (d.depth ≤ 60) && decide (d.shown.length ≤ 1000000)
def un (f : D → Option D) : List D → Option D
  | [d] => f d
  | _ => none
def bi (f : D → D → Option D) : List D → Option D
  | [d, e] => f d e
  | _ => none
def lenD : D → Option D
  | .list xs => some (.int xs.length)
  | .tuple xs => some (.int xs.length)
  | .str x => if x.length ≤ lim then some (.int x.length) else none
  | _ => none
def sumD (d : D) : Option D := (seqOf d).bind fun xs => (intsOf xs).map fun ns => .int ns.sum
def absD : D → Option D
  | .int i => some (.int (if i < 0 then -i else i))
  | _ => none
def intD : D → Option D
  | .int i => some (.int i)
  | _ => none
def reprD (d : D) : Option D := if showOk d = true then some (.str d.shown) else none
def allD : D → Option D
  | .list xs => (boolsOf xs).map fun bs => .bool (bs.all id)
  | _ => none
def anyD : D → Option D
  | .list xs => (boolsOf xs).map fun bs => .bool (bs.any id)
  | _ => none
def max2D : D → D → Option D
  | .int i, .int j => some (.int (if j > i then j else i))
  | _, _ => none
def min2D : D → D → Option D
  | .int i, .int j => some (.int (if j < i then j else i))
  | _, _ => none
def max1D (d : D) : Option D := (seqOf d).bind fun xs => ((intsOf xs).bind maxI).map .int
def min1D (d : D) : Option D := (seqOf d).bind fun xs => ((intsOf xs).bind minI).map .int
def maxdD (d : D) : D → Option D
  | .list xs => (intsOf xs).map fun ns => match maxI ns with
    | some n => .int n
    | none => d
  | _ => none
def mindD (d : D) : D → Option D
  | .list xs => (intsOf xs).map fun ns => match minI ns with
    | some n => .int n
    | none => d
  | _ => none
def sortD : D → Option D
  | .list xs => (intsOf xs).map fun ns => .list ((ns.mergeSort fun a b => decide (a ≤ b)).map .int)
  | _ => none
def tupD : D → Option D
  | .list xs => some (.tuple xs)
  | .tuple xs => some (.tuple xs)
  | _ => none
def lstD : D → Option D
  | .list xs => some (.list xs)
  | .tuple xs => some (.list xs)
  | _ => none
def gcdD : D → D → Option D
  | .int a, .int b => some (.int ((Nat.gcd a.natAbs b.natAbs : Nat) : Int))
  | _, _ => none
def isIntD : D → Bool
  | .int _ => true
  | .bool _ => true
  | _ => false
def isBoolD : D → Bool
  | .bool _ => true
  | _ => false
def isTupD : D → Bool
  | .tuple _ => true
  | _ => false
def isStrD : D → Bool
  | .str _ => true
  | _ => false
def blt : Bl → List D → Option D
  | .len => un lenD
  | .sum => un sumD
  | .abs => un absD
  | .int => un intD
  | .repr => un reprD
  | .all => un allD
  | .any => un anyD
  | .max2 => bi max2D
  | .min2 => bi min2D
  | .max1 => un max1D
  | .min1 => un min1D
  | .maxd d => un (maxdD d)
  | .mind d => un (mindD d)
  | .sorted => un sortD
  | .tuple => un tupD
  | .list => un lstD
  | .gcd => bi gcdD
def isaD : Ty → D → Bool
  | .int => isIntD
  | .bool => isBoolD
  | .tuple => isTupD
  | .str => isStrD

/-! ### slots -/
abbrev Sl := List SV
def getD : Sl → Nat → Option D := fun τ i => match τ[i]? with
  | some (.dat d) => some d
  | some (.own ds) => some (.list ds)
  | _ => none
mutual
def fitT : Tg → D → Bool
  | .nm _, _ => true
  | .tp ts, .tuple ds => fitTs ts ds
  | _, _ => false
def fitTs : Tg → List D → Bool
  | .nil, [] => true
  | .cons t ts, d :: ds => fitT t d && fitTs ts ds
  | _, _ => false
end
mutual
def setT : Tg → D → Sl → Sl
  | .nm i, d, τ => τ.set i (.dat d)
  | .tp ts, .tuple ds, τ => setTs ts ds τ
  | _, _, τ => τ
def setTs : Tg → List D → Sl → Sl
  | .cons t ts, d :: ds, τ => setTs ts ds (setT t d τ)
  | _, _, τ => τ
end
def bindT (t : Tg) (d : D) (τ : Sl) : Option Sl := if fitT t d = true then some (setT t d τ) else none
def wipeS (τ : Sl) : List Nat → Sl
  | [] => τ
  | v :: vs => (wipeS τ vs).set v .un

/-! ### expressions -/
structure FSpec (S : GS) where
  dk : Bool
  n : Nat
  f : List D → S.G → Res S D
abbrev Tab (S : GS) := Str → Option (FSpec S)
def Res.bind {S : GS} {α β : Type} : Res S α → (α → S.G → Res S β) → Res S β
  | .ok a g, f => f a g
  | .ex c t g, _ => .ex c t g
  | .no, _ => .no
def Res.of {S : GS} {α : Type} (o : Option α) (g : S.G) : Res S α := match o with
  | some a => .ok a g
  | none => .no
def compGo {S : GS} (f : D → S.G → Res S (Option D)) : List D → S.G → Res S (List D)
  | [], g => .ok [] g
  | d :: ds, g => (f d g).bind fun o g' => match o with
    | some y => (compGo f ds g').bind fun ys g'' => .ok (y :: ys) g''
    | none => compGo f ds g'

/-- no exception comes out -/
def Res.quiet {S : GS} {α : Type} : Res S α → Res S α
  | .ex _ _ _ => .no
  | r => r
def permL (perm : List Nat) (ds : List D) : List D := perm.map fun i => ds.getD i .none
def seqR {S : GS} (d : D) (g : S.G) : Res S (List D) := match d with
  | .list xs => .ok xs g
  | .tuple xs => .ok xs g
  | _ => .no
section
variable (S : GS) (T : Tab S)
mutual
def ev : E → Sl → S.G → Res S D
  | .var i, τ, g => .of (getD τ i) g
  | .glob x, _, g => .of ((S.cs x).map (·.2)) g
  | .lit d, _, g => .ok d g
  | .bin op a b, τ, g => (ev a τ g).bind fun x g => (ev b τ g).bind fun y g => .of (bop op x y) g
  | .neg a, τ, g => (ev a τ g).bind fun x g => match x with
    | .int i => .ok (.int (-i)) g
    | _ => .no
  | .cmp op a b, τ, g => (ev a τ g).bind fun x g => (ev b τ g).bind fun y g => .of ((cop op x y).map .bool) g
  | .chn o1 o2 a b c, τ, g => (ev a τ g).bind fun x g => (ev b τ g).bind fun y g => match cop o1 x y with
    | some true => (ev c τ g).bind fun z g => .of ((cop o2 y z).map .bool) g
    | some false => .ok (.bool false) g
    | none => .no
  | .and as, τ, g => evb true as τ g
  | .or as, τ, g => evb false as τ g
  | .not a, τ, g => (ev a τ g).bind fun x g => .of ((tru x).map fun b => .bool !b) g
  | .ite c a b, τ, g => (ev c τ g).bind fun x g => match tru x with
    | some true => ev a τ g
    | some false => ev b τ g
    | none => .no
  | .tup as, τ, g => (evs as τ g).bind fun ds g => if ds.length ≤ lim then .ok (.tuple ds) g else .no
  | .lst as, τ, g => (evs as τ g).bind fun ds g => if ds.length ≤ lim then .ok (.list ds) g else .no
  | .idx a b, τ, g => (ev a τ g).bind fun x g => (ev b τ g).bind fun y g => .of (idxD x y) g
  | .slc a lo hi, τ, g => (ev a τ g).bind fun x g => (evo lo τ g).bind fun l g => (evo hi τ g).bind fun h g => .of (slcD x l h) g
  | .rev a, τ, g => (ev a τ g).bind fun x g => match x with
    | .list xs => .ok (.list xs.reverse) g
    | .tuple xs => .ok (.tuple xs.reverse) g
    | _ => .no
  | .call f dk as, τ, g => match T f with
    | none => .no
    | some F => if F.dk = dk.isSome then (match dk with
        | some j => (match τ[j]? with
          | some .dk => (evs as τ g).bind fun ds g => if ds.length = F.n then F.f ds g else .no
          | _ => .no)
        | none => (evs as τ g).bind fun ds g => if ds.length = F.n then F.f ds g else .no) else .no
  | .callk f ks perm as, τ, g => match T f with
    | none => .no
    | some F => if F.dk = false then (evs as τ g).bind fun ds g => if ds.length = F.n ∧ perm.length = F.n then F.f (permL perm ds) g else .no else .no
  | .blt f as, τ, g => (evs as τ g).bind fun ds g => .of (blt f ds) g
  | .isa t a, τ, g => (ev a τ g).bind fun x g => .ok (.bool (isaD t x)) g
  | .comp own tg it c el, τ, g => (evi it τ g).bind fun items g => if items.length < lim then
      ((compGo (fun d g => match bindT tg d (wipeS τ own) with
        | none => .no
        | some τ' => (ev c τ' g).bind fun x g => match tru x with
          | some true => (ev el τ' g).bind fun y g => .ok (some y) g
          | some false => .ok none g
          | none => .no) items g).bind fun ys g => .ok (.list ys) g).quiet else .no
  | .scut j n, τ, g => (match τ[j]? with
    | some .dk => .of ((S.cut g).map fun ns => .list ((ns.take n).map .int)) g
    | _ => .no)
  | .gget j key, τ, g => (match τ[j]? with
    | some .dk => .of ((S.num g key).map .int) g
    | _ => .no)
  | .gne j key, τ, g => (match τ[j]? with
    | some .dk => .of ((S.lst g key).bind fun ns => if ns.length ≤ lim then some (.bool (!ns.isEmpty)) else none) g
    | _ => .no)
  | .gpop j key, τ, g => (match τ[j]? with
    | some .dk => (match S.lst g key with
      | some ns => (match ns.getLast? with
        | some n => (match S.putl g key ns.dropLast with
          | some g' => .ok (.int n) g'
          | none => .no)
        | none => .no)
      | none => .no)
    | _ => .no)
  | .gapp j key a, τ, g => (match τ[j]? with
    | some .dk => (match S.lst g key with
      | some _ => (ev a τ g).bind fun x g => (match x with
        | .int n => (match S.lst g key with
          | some ns => if ns.length < lim then (match S.putl g key (ns ++ [n]) with
            | some g' => .ok .none g'
            | none => .no) else .no
          | none => .no)
        | _ => .no)
      | none => .no)
    | _ => .no)
  | _, _, _ => .no
def evs : E → Sl → S.G → Res S (List D)
  | .nil, _, g => .ok [] g
  | .cons a as, τ, g => (ev a τ g).bind fun x g => (evs as τ g).bind fun xs g => .ok (x :: xs) g
  | _, _, _ => .no

/-- and, or: from the left -/
def evb (k : Bool) : E → Sl → S.G → Res S D
  | .cons a .nil, τ, g => ev a τ g
  | .cons a as, τ, g => (ev a τ g).bind fun x g => match tru x with
    | some b => if b = k then evb k as τ g else .ok x g
    | none => .no
  | _, _, _ => .no

/-- a part of a slice -/
def evo : E → Sl → S.G → Res S (Option Int)
  | .nil, _, g => .ok none g
  | .cons a _, τ, g => (ev a τ g).bind fun x g => match x with
    | .int i => .ok (some i) g
    | _ => .no
  | _, _, _ => .no

/-- what a for or a comprehension goes over -/
def evi : E → Sl → S.G → Res S (List D)
  | .rng1 a, τ, g => (ev a τ g).bind fun x g => match x with
    | .int n => if n < lim ∧ -(lim : Int) < n then .ok ((List.range n.toNat).map fun i => .int (i : Nat)) g else .no
    | _ => .no
  | .rng2 a b, τ, g => (ev a τ g).bind fun x g => (ev b τ g).bind fun y g => match x, y with
    | .int i, .int j => if (-(lim : Int) < i ∧ i < lim) ∧ (-(lim : Int) < j ∧ j < lim) then .ok ((List.range (j - i).toNat).map fun k => .int (i + (k : Nat))) g else .no
    | _, _ => .no
  | .enm as, τ, g => (evs as τ g).bind fun zs g => (match zs with
    | [x] => (seqR x g).bind fun xs g => .ok (xs.zipIdx.map fun p => .tuple [.int (0 + (p.2 : Nat)), p.1]) g
    | [x, .int k] => if -(2 ^ 62) < k ∧ k < 2 ^ 62 then (seqR x g).bind fun xs g => .ok (xs.zipIdx.map fun p => .tuple [.int (k + (p.2 : Nat)), p.1]) g else .no
    | _ => .no)
  | .zp a b, τ, g => (ev a τ g).bind fun x g => (ev b τ g).bind fun y g => (seqR x g).bind fun xs g => (seqR y g).bind fun ys g => .ok ((xs.zip ys).map fun p => .tuple [p.1, p.2]) g
  | .cons a _, τ, g => (ev a τ g).bind fun x g => seqR x g
  | _, _, _ => .no
end

/-! ### statements -/
mutual
def rds : E → List Nat
  | .var i => [i]
  | .glob _ => []
  | .lit _ => []
  | .bin _ a b => rds a ++ rds b
  | .neg a => rds a
  | .cmp _ a b => rds a ++ rds b
  | .chn _ _ a b c => rds a ++ rds b ++ rds c
  | .and as => rds as
  | .or as => rds as
  | .not a => rds a
  | .ite c a b => rds c ++ rds a ++ rds b
  | .tup as => rds as
  | .lst as => rds as
  | .nil => []
  | .cons a as => rds a ++ rds as
  | .idx a b => rds a ++ rds b
  | .slc a lo hi => rds a ++ rds lo ++ rds hi
  | .rev a => rds a
  | .call _ _ as => rds as
  | .callk _ _ _ as => rds as
  | .blt _ as => rds as
  | .isa _ a => rds a
  | .comp _ _ it c el => rds it ++ rds c ++ rds el
  | .rng1 a => rds a
  | .rng2 a b => rds a ++ rds b
  | .enm a => rds a
  | .zp a b => rds a ++ rds b
  | .scut _ _ => []
  | .gget _ _ => []
  | .gne _ _ => []
  | .gpop _ _ => []
  | .gapp _ _ a => rds a
end

/-- the slots as an expression that reads rd sees them -/
def viewAt (rd : List Nat) : Nat → Sl → Sl
  | _, [] => []
  | i, sv :: r => (match sv with
    | .own ds => if rd.contains i then .dat (.list ds) else .un
    | x => x) :: viewAt rd (i + 1) r
def view (rd : List Nat) (τ : Sl) : Sl := viewAt rd 0 τ

/-- the own lists among rd become data -/
def frzAt (rd : List Nat) : Nat → Sl → Sl
  | _, [] => []
  | i, sv :: r => (match sv with
    | .own ds => if rd.contains i then .dat (.list ds) else .own ds
    | x => x) :: frzAt rd (i + 1) r
def frz (rd : List Nat) (τ : Sl) : Sl := frzAt rd 0 τ
def aft (rd : List Nat) (ok : Bool) (τ : Sl) : Sl := if ok = true then τ else frz rd τ

inductive Out where
  | nx (τ : Sl) (g : S.G)
  | rt (d : D) (g : S.G)
  | bk (τ : Sl) (g : S.G)
  | ct (τ : Sl) (g : S.G)
  | ex (c : Str) (t : D) (g : S.G)
  | no
variable {S}
def Out.seq (o : Out S) (f : Sl → S.G → Out S) : Out S := match o with
  | .nx τ g => f τ g
  | x => x
def Res.out {α : Type} (r : Res S α) (f : α → S.G → Out S) : Out S := match r with
  | .ok a g => f a g
  | .ex c t g => .ex c t g
  | .no => .no

/-- makes a new list -/
def isNew : E → Bool
  | .lst _ | .comp _ _ _ _ _ | .rev _ => true
  | .bin .add _ _ | .bin .mul _ _ => true
  | .slc _ _ _ => true
  | .blt .sorted _ | .blt .list _ => true
  | _ => false
def inMut : D → Bool
  | .list xs => noMutAll xs
  | d => noMut d
def asgS (e : E) (i : Nat) (d : D) (τ : Sl) : Sl :=
  if isNew e = true then (match d with
    | .list ds => (aft (rds e) (noMutAll ds) τ).set i (.own ds)
    | d => (aft (rds e) (noMut d) τ).set i (.dat d))
  else (aft (rds e) (noMut d) τ).set i (.dat d)

/-- the slots while a loop goes over it -/
def frzI : E → Sl → Sl
  | .rng1 _, τ => τ
  | .rng2 _ _, τ => τ
  | e, τ => frz (rds e) τ
def forGo (step : D → Sl → S.G → Out S) : List D → Sl → S.G → Out S
  | [], τ, g => .nx τ g
  | d :: ds, τ, g => match step d τ g with
    | .nx τ' g' => forGo step ds τ' g'
    | .ct τ' g' => forGo step ds τ' g'
    | .bk τ' g' => .nx τ' g'
    | .rt d g => .rt d g
    | .ex c t g => .ex c t g
    | .no => .no
def whlGo (cond : Sl → S.G → Res S Bool) (body : Sl → S.G → Out S) : Nat → Sl → S.G → Out S
  | 0, _, _ => .no
  | n + 1, τ, g => (cond τ g).out fun b g => if b = true then (match body τ g with
      | .nx τ' g' => whlGo cond body n τ' g'
      | .ct τ' g' => whlGo cond body n τ' g'
      | .bk τ' g' => .nx τ' g'
      | .rt d g => .rt d g
      | .ex c t g => .ex c t g
      | .no => .no) else .nx τ g
def svOf (e : E) (d : D) : SV := if isNew e = true then (match d with
    | .list ds => .own ds
    | d => .dat d) else .dat d
def mutOk (e : E) (d : D) : Bool := if isNew e = true then inMut d else noMut d
def svsOf : E → List D → List SV
  | .cons a r, d :: ds => svOf a d :: svsOf r ds
  | _, _ => []
def mutsOk : E → List D → Bool
  | .cons a r, d :: ds => mutOk a d && mutsOk r ds
  | _, _ => true
def putS : List Nat → List SV → Sl → Sl
  | i :: is, sv :: svs, τ => putS is svs (τ.set i sv)
  | _, _, τ => τ
def evV (e : E) (τ : Sl) (g : S.G) : Res S D := ev S T e (view (rds e) τ) g
def testV (e : E) (τ : Sl) (g : S.G) : Res S Bool := (evV T e τ g).bind fun x g => .of (tru x) g

/-- values into targets, from the left: a slot, an item of an own list -/
def stM : E → List D → Sl → S.G → Out S
  | .nil, [], τ, g => .nx τ g
  | .cons (.var i) r, d :: ds, τ, g => stM r ds (τ.set i (.dat d)) g
  | .cons (.idx (.var j) k) r, d :: ds, τ, g => match τ[j]? with
    | some (.own es) => (evV T k τ g).out fun x g => (match x with
      | .int z => (match ixN es.length z with
        | some l => stM r ds (τ.set j (.own (es.set l d))) g
        | none => .no)
      | _ => .no)
    | _ => .no
  | _, _, _, _ => .no
def run (n : Nat) : Slim.S → Sl → S.G → Out S
  | .nil, τ, g => .nx τ g
  | .cons s r, τ, g => (run n s τ g).seq fun τ g => run n r τ g
  | .asg i e, τ, g => (evV T e τ g).out fun d g => .nx (asgS e i d τ) g
  | .par is as, τ, g => (evs S T as (view (rds as) τ) g).out fun ds g => if ds.length = is.length then .nx (putS is (svsOf as ds) (aft (rds as) (mutsOk as ds) τ)) g else .no
  | .asgt t e, τ, g => (evV T e τ g).out fun d g => match bindT t d (aft (rds e) (noMut d) τ) with
    | some τ' => .nx τ' g
    | none => .no
  | .exp e, τ, g => (evV T e τ g).out fun _ g => .nx τ g
  | .app i e, τ, g => match τ[i]? with
    | some (.own _) => (evV T e τ g).out fun d g => (match (aft (rds e) (noMut d) τ)[i]? with
      | some (.own ds) => if ds.length < lim then .nx ((aft (rds e) (noMut d) τ).set i (.own (ds ++ [d]))) g else .no
      | _ => .no)
    | _ => .no
  | .ext i e, τ, g => match τ[i]? with
    | some (.own _) => (evV T e τ g).out fun d g => (match d with
      | .list es => (match (aft (rds e) (noMutAll es) τ)[i]? with
        | some (.own ds) => if ds.length + es.length ≤ lim then .nx ((aft (rds e) (noMutAll es) τ).set i (.own (ds ++ es))) g else .no
        | _ => .no)
      | _ => .no)
    | _ => .no
  | .popt t i, τ, g => match τ[i]? with
    | some (.own ds) => (match ds.getLast? with
      | some d => (match bindT t d (τ.set i (.own ds.dropLast)) with
        | some τ' => .nx τ' g
        | none => .no)
      | none => .no)
    | _ => .no
  | .pmx ts as, τ, g => (evs S T as (view (rds as) τ) g).out fun ds g => stM T ts ds (aft (rds as) (noMutAll ds) τ) g
  | .set i k e, τ, g => (evV T e τ g).out fun d g => match (aft (rds e) (noMut d) τ)[i]? with
    | some (.own ds) => (evV T k (aft (rds e) (noMut d) τ) g).out fun x g => (match x with
      | .int z => (match ixN ds.length z with
        | some j => .nx ((aft (rds e) (noMut d) τ).set i (.own (ds.set j d))) g
        | none => .no)
      | _ => .no)
    | _ => .no
  | .gset j key e, τ, g => (evV T e τ g).out fun d g => (match τ[j]?, d with
    | some .dk, .int n => (match S.put g key n with
      | some g' => .nx τ g'
      | none => .no)
    | _, _ => .no)
  | .ret e, τ, g => (evV T e τ g).out fun d g => .rt d g
  | .retn, _, g => .rt .none g
  | .ife c a b, τ, g => (testV T c τ g).out fun x g => if x = true then run n a τ g else run n b τ g
  | .whl c b, τ, g => whlGo (fun τ g => testV T c τ g) (fun τ g => run n b τ g) n τ g
  | .for_ t it b, τ, g => (evi S T it (view (rds it) τ) g).out fun items g => if items.length < lim then
      forGo (fun d τ g => match bindT t d τ with
        | some τ' => run n b τ' g
        | none => .no) items (frzI it τ) g else .no
  | .brk, τ, g => .bk τ g
  | .cnt, τ, g => .ct τ g
  | .pass, τ, g => .nx τ g
  | .fail, _, _ => .no
end
end Slim

set_option Elab.async false
set_option linter.all false
set_option maxRecDepth 100000
set_option maxHeartbeats 4000000
/-! SLIM 3: operations on data, from the layer's rules. -/
namespace Slim
open PySem PySem.Spec PyProof.Rows L2


/-- bad addresses hold something, no tuples -/
def Dom (B : Addr → Prop) (H : Hp) : Prop := ∀ a, B a → ∃ o, H a = some o ∧ NT o
theorem Dom.new {B : Addr → Prop} {H : Hp} {p : Addr} (d : Dom B H) (h : H p = none) : ¬ B p := fun b => by
  obtain ⟨o, e, _⟩ := d p b
  rw [h] at e; cases e
abbrev All : Addr → Prop := fun _ => False
theorem Kp.any {bad : Addr → Prop} {H H' : Hp} (k : Kp All H H') : Kp bad H H' := k.mono fun _ z => z.elim


/-- a value by data: nothing that was tracked is changed -/
def rOp (f : D → D → Option D) : R2 := fun x y H Q => ∃ B dx dy d, Dom B H ∧ Rep B H x dx ∧ Rep B H y dy ∧ f dx dy = some d ∧ ∀ v H', Kp All H H' → Rep B H' v d → Q v H'

/-- a list that comes is a new one -/
def FreshAt (H : Hp) (v : V) (d : D) : Prop := ∀ ds, d = .list ds → ∃ p, v = .ref p ∧ H p = none

/-- as rOp: a list that comes is a new one -/
def rOpF (f : D → D → Option D) : R2 := fun x y H Q => ∃ B dx dy d, Dom B H ∧ Rep B H x dx ∧ Rep B H y dy ∧ f dx dy = some d ∧ ∀ v H', Kp All H H' → Rep B H' v d → FreshAt H v d → Q v H'
section
variable {X : Cx} {pins : List (Addr × Obj)} {σ : L2.St} {H : Hp} {s : Shared} {B : Addr → Prop}
theorem OpR.by {f : Value → Value → Sem Value} {r r' : R2} (h : OpR X f r) (i : ∀ x y H Q, r' x y H Q → r x y H Q) : OpR X f r' :=
  fun pins s σ H x y v u Q I rx ry q => h pins s σ H x y v u Q I rx ry (i x y H Q q)
theorem OpR.of {f : Value → Value → Sem Value} {g : D → D → Option D} (h : OpR X f (rOpF g)) : OpR X f (rOp g) := OpR.by h fun x y H Q z => by
  obtain ⟨B, dx, dy, d, h1, h2, h3, h4, q⟩ := z
  exact ⟨B, dx, dy, d, h1, h2, h3, h4, fun v H' k r _ => q v H' k r⟩

theorem Rep.newL {xs : List V} {ds : List D} {p : Addr} (d : Dom B H) (r : RepAll B H xs ds) (h : H p = none) : Rep B (upd H p (.lst xs)) (.ref p) (.list ds) :=
  .lst (d.new h) upd_same (r.keep (Kp.new h))
theorem Rep.newT {xs : List V} {ds : List D} {p : Addr} (d : Dom B H) (r : RepAll B H xs ds) (h : H p = none) : Rep B (upd H p (.tup xs)) (.ref p) (.tuple ds) :=
  .tup (d.new h) (.inl upd_same) (r.keep (Kp.new h))
theorem lim_line {n : Nat} (h : n ≤ lim) : n ≤ sizeLine := Nat.le_trans h (by decide)
theorem Rep.lstAt {x : V} {ds : List D} (r : Rep B H x (.list ds)) : ∃ a xs, x = .ref a ∧ ¬ B a ∧ H a = some (.lst xs) ∧ RepAll B H xs ds := by
  cases r with
  | lst n h q => exact ⟨_, _, rfl, n, h, q⟩
theorem Rep.tupAt {x : V} {ds : List D} (r : Rep B H x (.tuple ds)) : ∃ a xs, x = .ref a ∧ ¬ B a ∧ Rd H a (.tup xs) ∧ RepAll B H xs ds := by
  cases r with
  | tup n h q => exact ⟨_, _, rfl, n, h, q⟩
theorem nil_of {xs : List V} {ds : List D} (r : RepAll B H xs ds) (e : xs = []) : ds = [] := by
  subst e; cases r; rfl
theorem Rep.intAt {x : V} {i : Int} (r : Rep B H x (.int i)) : x = .int i := by cases r; rfl
theorem Rep.blAt {x : V} {i : Bool} (r : Rep B H x (.bool i)) : x = .bl i := by cases r; rfl
theorem Rep.strAt {x : V} {i : Str} (r : Rep B H x (.str i)) : x = .str i := by cases r; rfl
theorem Rep.nonAt {x : V} (r : Rep B H x .none) : x = .non := by cases r; rfl

theorem r_addF : OpR X (binaryOp .Add) (rOpF addD) := by
  intro pins s σ H x y v u Q I rx ry h
  obtain ⟨B, dx, dy, d, hd, h1, h2, e, q⟩ := h
  cases dx <;> cases dy <;> simp only [addD, reduceCtorEq] at e
  case int.int i j =>
    cases e
    cases h1.intAt; cases h2.intAt
    exact op_add pins s σ H _ _ v u Q I rx ry ⟨i, j, rfl, rfl, q _ H Kp.refl (.int _) nofun⟩
  case str.str i j =>
    split at e
    · rename_i hl
      cases e
      cases h1.strAt; cases h2.strAt
      exact op_add_str pins s σ H _ _ v u Q I rx ry ⟨i, j, rfl, rfl, lim_line hl, q _ H Kp.refl (.str _) nofun⟩
    · cases e
  case list.list xs ys =>
    split at e
    · rename_i hl
      cases e
      obtain ⟨a, vs, rfl, _, ha, ra⟩ := h1.lstAt
      obtain ⟨b, ws, rfl, _, hb, rb⟩ := h2.lstAt
      refine op_cat pins s σ H _ _ v u Q I rx ry ⟨a, b, vs, ws, rfl, rfl, ha, hb, ?_, fun p hp => q _ _ (Kp.new hp) (Rep.newL hd (ra.append rb) hp) fun _ _ => ⟨p, rfl, hp⟩⟩
      rw [ra.length, rb.length]; exact lim_line hl
    · cases e
  case tuple.tuple xs ys =>
    split at e
    · rename_i hl
      cases e
      obtain ⟨a, vs, rfl, na, ha, ra⟩ := h1.tupAt
      obtain ⟨b, ws, rfl, nb, hb, rb⟩ := h2.tupAt
      refine op_catA pins s σ H _ _ v u Q I rx ry ⟨a, b, vs, ws, rfl, rfl, (.inl ha), (.inl hb), ?_, fun z => ?_, fun _ z => ?_, fun _ _ p hp => q _ _ (Kp.new hp) (Rep.newT hd (ra.append rb) hp) nofun⟩
      · rw [ra.length, rb.length]; exact lim_line hl
      · rw [nil_of ra z, List.nil_append] at q
        exact q _ H Kp.refl h2 nofun
      · rw [nil_of rb z, List.append_nil] at q
        exact q _ H Kp.refl h1 nofun
    · cases e
theorem r_add : OpR X (binaryOp .Add) (rOp addD) := OpR.of r_addF
theorem r_sub : OpR X (binaryOp .Sub) (rOp subD) := by
  intro pins s σ H x y v u Q I rx ry h
  obtain ⟨B, dx, dy, d, hd, h1, h2, e, q⟩ := h
  cases dx <;> cases dy <;> simp only [subD, reduceCtorEq] at e
  case int.int i j =>
    cases e
    cases h1.intAt; cases h2.intAt
    exact op_sub pins s σ H _ _ v u Q I rx ry ⟨i, j, rfl, rfl, q _ H Kp.refl (.int _)⟩
theorem r_fdiv : OpR X (binaryOp .FloorDiv) (rOp fdivD) := by
  intro pins s σ H x y v u Q I rx ry h
  obtain ⟨B, dx, dy, d, hd, h1, h2, e, q⟩ := h
  cases dx <;> cases dy <;> simp only [fdivD, reduceCtorEq] at e
  case int.int i j =>
    split at e
    · rename_i hl
      cases e
      cases h1.intAt; cases h2.intAt
      exact op_fdivW pins s σ H _ _ v u Q I rx ry ⟨i, j, rfl, rfl, hl, q _ H Kp.refl (.int _)⟩
    · cases e
theorem r_mod : OpR X (binaryOp .Mod) (rOp modD) := by
  intro pins s σ H x y v u Q I rx ry h
  obtain ⟨B, dx, dy, d, hd, h1, h2, e, q⟩ := h
  cases dx <;> cases dy <;> simp only [modD, reduceCtorEq] at e
  case int.int i j =>
    split at e
    · rename_i hl
      cases e
      cases h1.intAt; cases h2.intAt
      exact op_mod pins s σ H _ _ v u Q I rx ry ⟨i, j, rfl, rfl, hl, q _ H Kp.refl (.int _)⟩
    · cases e
theorem r_pow : OpR X (binaryOp .Pow) (rOp powD) := by
  intro pins s σ H x y v u Q I rx ry h
  obtain ⟨B, dx, dy, d, hd, h1, h2, e, q⟩ := h
  cases dx <;> cases dy <;> simp only [powD, reduceCtorEq] at e
  case int.int i j =>
    split at e
    · rename_i hl
      cases e
      cases h1.intAt; cases h2.intAt
      exact op_pow pins s σ H _ _ v u Q I rx ry ⟨i, j, rfl, rfl, hl, q _ H Kp.refl (.int _)⟩
    · cases e
theorem r_neg : UnR X (unaryOp .USub) (fun x H Q => ∃ i, x = .int i ∧ Q (.int (-i)) H) := un_neg


/-- t * 1: the same tuple -/
theorem tuple_mul1 (l : Addr) (items : Array Value) (n : Nat) (dd : Option Addr) (sl : Array (Option Value)) (u : Tok) :
    Meets (Builtin.«tuple.__mul__» ⟨[.ref l, .int 1 u], []⟩) (fun _ R s => s.heap.get? l = some { cls := .type "tuple", dict := dd, data := .seq items n, slots := sl } ∧ R (.ok (.ret (Value.ref l))) s) :=
  .of_wp fun prog w A R s h => by
    obtain ⟨hp, g, d, tk, os⟩ := s
    obtain ⟨hl, h⟩ := h
    have f1 := AutoSeq1.idx_int
    wp_walk using wpAny_loadPart' hl
    exact ⟨_, rfl, h⟩
theorem r_mul1 {t : Addr} {xs : List V} {one : Tok} {Q : VK} (I : Inv X pins σ H s) (ht : Rd H t (.tup xs)) (q : Q (.ref t) H) :
    wpAny (model X.prog X.w) X.A (binaryOp .Mult (.ref t) (.int 1 one)) (EP X pins σ Q) X.xe s := by
  obtain ⟨its, r, ⟨⟨cls, dd, data, sl⟩, ho, hc, n, hd⟩, hs⟩ := I.tuple (.inl ht)
  simp only at hc hd
  subst hc hd
  refine wpAny_binaryOp_repeat_ref (U := "int") (T := "tuple") (by decide) ⟨_, ho, rfl⟩ (fun s' => typeIs_int s' 1 one) noFill_tuple_mul F.fills_int_mul F.slot_int_rmul repeat_tuple F.slot_int_index.lookup ?_
  refine call_meets F.slot_int_rmul (typeIs_int s 1 one) F.entry_int_rmul (F.args_int_rmul_2 _ _) (int_rmul_tuple 1 one t its.toArray n dd sl) ⟨ho, rfl, ⟨_, ho, rfl⟩, ?_⟩
  refine call_meets F.slot_tuple_mul ⟨_, ho, rfl⟩ F.entry_tuple_mul (F.args_tuple_mul_2 _ _) (tuple_mul1 t its.toArray n dd sl one) ⟨ho, ?_⟩
  exact ⟨.ref t, H, I, rfl, q⟩
theorem r_mulF : OpR X (binaryOp .Mult) (rOpF mulD) := by
  intro pins s σ H x y v u Q I rx ry h
  obtain ⟨B, dx, dy, d, hd, h1, h2, e, q⟩ := h
  cases dx <;> cases dy <;> simp only [mulD, reduceCtorEq] at e
  case int.int i j =>
    split at e
    · rename_i hl
      cases e
      cases h1.intAt; cases h2.intAt
      rcases hl with hl | hl
      · exact op_mul pins s σ H _ _ v u Q I rx ry ⟨i, j, rfl, rfl, hl, q _ H Kp.refl (.int _) nofun⟩
      · exact op_mulW pins s σ H _ _ v u Q I rx ry ⟨i, j, rfl, rfl, hl, q _ H Kp.refl (.int _) nofun⟩
    · cases e
  case list.int xs k =>
    split at e
    · rename_i hl
      obtain ⟨k0, k1, k2⟩ := hl
      cases e
      obtain ⟨a, vs, rfl, _, ha, ra⟩ := h1.lstAt
      cases h2.intAt
      refine op_rep pins s σ H _ _ v u Q I rx ry ⟨a, k, vs, rfl, rfl, ha, by omega, by omega, ?_, fun p hp => q _ _ (Kp.new hp) (Rep.newL hd (ra.rep _) hp) fun _ _ => ⟨p, rfl, hp⟩⟩
      rw [ra.length, sizeLine_eq]
      have : xs.length * k.toNat ≤ 100 * 1000 := Nat.mul_le_mul k2 (by omega)
      omega
    · cases e
  case tuple.int xs k =>
    split at e
    · rename_i hl
      obtain ⟨k0, k1, k2, k3⟩ := hl
      cases e
      obtain ⟨a, vs, rfl, _, ha, ra⟩ := h1.tupAt
      cases h2.intAt
      by_cases hk : k = 1
      · subst hk
        cases rx
        obtain ⟨t, rfl⟩ := ry
        refine r_mul1 I ha (q _ H Kp.refl ?_ nofun)
        have e1 : (List.replicate (1 : Int).toNat xs).flatten = xs := by
          show (List.replicate 1 xs).flatten = xs
          simp
        rw [e1]
        exact h1
      · refine op_repT pins s σ H _ _ v u Q I rx ry ⟨a, k, vs, rfl, rfl, (.inl ha), fun z => k3 (nil_of ra z), by omega, k1, by rw [ra.length]; omega, fun p hp => q _ _ (Kp.new hp) (Rep.newT hd (ra.rep _) hp) nofun⟩
    · cases e

theorem r_mul : OpR X (binaryOp .Mult) (rOp mulD) := OpR.of r_mulF

/-! ### comparisons -/

/-- a comparison by data -/
def rCo (f : D → D → Option Bool) : R2 := fun x y H Q => ∃ B dx dy b, Rep B H x dx ∧ Rep B H y dy ∧ f dx dy = some b ∧ Q (.bl b) H
theorem r_ints {op : CmpOp} {p : Int → Int → Bool} (h : OpR X (compareOp op) (rI0 fun i j => .bl (p i j))) : OpR X (compareOp op) (rCo (ltI p)) := by
  intro pins s σ H x y v u Q I rx ry z
  obtain ⟨B, dx, dy, b, h1, h2, e, q⟩ := z
  cases dx <;> cases dy <;> simp only [ltI, reduceCtorEq] at e
  case int.int i j =>
    cases e
    cases h1.intAt; cases h2.intAt
    exact h pins s σ H _ _ v u Q I rx ry ⟨i, j, rfl, rfl, q⟩
theorem eqOk_of {a b : D} (h : eqOk a b = true) : a.plain = true ∧ b.plain = true ∧ min a.depth b.depth ≤ 60 := by
  unfold eqOk at h
  simp only [Bool.and_eq_true, decide_eq_true_eq] at h
  exact ⟨h.1.1, h.1.2, h.2⟩
theorem r_eq (hu : X.A.units + 64 < cLine) : OpR X (compareOp .Eq) (rCo eqD) := by
  intro pins s σ H x y v u Q I rx ry z
  obtain ⟨B, dx, dy, b, h1, h2, e, q⟩ := z
  unfold eqD at e
  split at e
  · rename_i hk
    cases e
    obtain ⟨k1, k2, k3⟩ := eqOk_of hk
    obtain ⟨as, r1⟩ := h1.reads I dx _ _ rx
    obtain ⟨bs, r2⟩ := h2.reads I dy _ _ ry
    exact SeqAt.eq_plain r1 r2 k1 k2 (by omega) ⟨.bl _, H, I, rfl, q⟩
  · cases e
theorem r_ne (hu : X.A.units + 64 < cLine) : OpR X (compareOp .NotEq) (rCo fun a b => (eqD a b).map (!·)) := by
  intro pins s σ H x y v u Q I rx ry z
  obtain ⟨B, dx, dy, b, h1, h2, e, q⟩ := z
  simp only [eqD] at e
  split at e
  · rename_i hk
    cases e
    obtain ⟨k1, k2, k3⟩ := eqOk_of hk
    obtain ⟨as, r1⟩ := h1.reads I dx _ _ rx
    obtain ⟨bs, r2⟩ := h2.reads I dy _ _ ry
    exact SeqAt.ne_plain r1 r2 k1 k2 (by omega) ⟨.bl _, H, I, rfl, q⟩
  · cases e
theorem depth_list {xs : List D} : PyData.depth (.list xs) = PyData.depthAll xs + 1 := by rw [PyData.depth]
theorem depth_tup {xs : List D} : PyData.depth (.tuple xs) = PyData.depthAll xs + 1 := by rw [PyData.depth]
theorem plain_list {xs : List D} (h : PyData.plain (.list xs) = true) : PyData.plainAll xs = true := by rw [PyData.plain] at h; exact h
theorem plain_tup {xs : List D} (h : PyData.plain (.tuple xs) = true) : PyData.plainAll xs = true := by rw [PyData.plain] at h; exact h
theorem r_in (hu : X.A.units + 64 < cLine) : OpR X (compareOp .In) (rCo inD) := by
  intro pins s σ H x y v u Q I rx ry z
  obtain ⟨B, dx, dy, b, h1, h2, e, q⟩ := z
  obtain ⟨as, r1⟩ := h1.reads I dx _ _ rx
  obtain ⟨bs, r2⟩ := h2.reads I dy _ _ ry
  cases dy <;> simp only [inD, reduceCtorEq] at e
  case list ys =>
    split at e
    · rename_i hk
      cases e
      obtain ⟨k1, k2, k3⟩ := eqOk_of hk
      rw [depth_list] at k3
      exact SeqAt.in_list_data r2 r1 (plain_list k2) k1 (by omega) ⟨.bl _, H, I, rfl, q⟩
    · cases e
  case tuple ys =>
    split at e
    · rename_i hk
      cases e
      obtain ⟨k1, k2, k3⟩ := eqOk_of hk
      rw [depth_tup] at k3
      exact SeqAt.in_tuple_data r2 r1 (plain_tup k2) k1 (by omega) ⟨.bl _, H, I, rfl, q⟩
    · cases e
theorem r_notin (hu : X.A.units + 64 < cLine) : OpR X (compareOp .NotIn) (rCo fun a b => (inD a b).map (!·)) := by
  intro pins s σ H x y v u Q I rx ry z
  obtain ⟨B, dx, dy, b, h1, h2, e, q⟩ := z
  obtain ⟨as, r1⟩ := h1.reads I dx _ _ rx
  obtain ⟨bs, r2⟩ := h2.reads I dy _ _ ry
  cases dy <;> simp only [inD, Option.map_none, reduceCtorEq] at e
  case list ys =>
    split at e
    · rename_i hk
      cases e
      obtain ⟨k1, k2, k3⟩ := eqOk_of hk
      rw [depth_list] at k3
      exact SeqAt.notIn_list_data r2 r1 (plain_list k2) k1 (by omega) ⟨.bl _, H, I, rfl, q⟩
    · cases e
  case tuple ys =>
    split at e
    · rename_i hk
      cases e
      obtain ⟨k1, k2, k3⟩ := eqOk_of hk
      rw [depth_tup] at k3
      exact SeqAt.notIn_tuple_data r2 r1 (plain_tup k2) k1 (by omega) ⟨.bl _, H, I, rfl, q⟩
    · cases e
theorem rep_non {x : V} {d : D} (h : Rep B H x d) : decide (x = .non) = true ↔ d = .none := by
  cases h <;> simp
theorem r_is : OpR X (compareOp .Is) (rCo isD) := by
  intro pins s σ H x y v u Q I rx ry z
  obtain ⟨B, dx, dy, b, h1, h2, e, q⟩ := z
  by_cases hy : dy = .none
  · subst hy
    cases h2.nonAt
    refine op_isN pins s σ H _ _ v u Q I rx ry ⟨rfl, ?_⟩
    have e2 : decide (x = V.non) = b := by
      cases h1 <;> simp only [isD, Option.some.injEq] at e <;> subst e <;> simp
    rw [e2]; exact q
  · cases dx <;> cases dy <;> simp only [isD, reduceCtorEq, not_true_eq_false] at e hy
    case bool.bool i j =>
      cases e
      cases h1.blAt; cases h2.blAt
      exact op_is_bl pins s σ H _ _ v u Q I rx ry ⟨i, j, rfl, rfl, q⟩
theorem r_isnt : OpR X (compareOp .IsNot) (rCo fun a b => (isD a b).map (!·)) := by
  intro pins s σ H x y v u Q I rx ry z
  obtain ⟨B, dx, dy, b, h1, h2, e, q⟩ := z
  by_cases hy : dy = .none
  · subst hy
    cases h2.nonAt
    refine op_notN pins s σ H _ _ v u Q I rx ry ⟨rfl, ?_⟩
    have e2 : (!decide (x = V.non)) = b := by
      cases h1 <;> simp only [isD, Option.map_some, Option.some.injEq] at e <;> subst e <;> simp
    rw [e2]; exact q
  · cases dx <;> cases dy <;> simp only [isD, Option.map_some, Option.map_none, Option.some.injEq, reduceCtorEq, not_true_eq_false] at e hy
    case bool.bool i j =>
      cases e
      cases h1.blAt; cases h2.blAt
      exact op_isnot_bl pins s σ H _ _ v u Q I rx ry ⟨i, j, rfl, rfl, q⟩

/-! ### truth -/
theorem tru_of {K : PySem.W.Frag} {x : V} {d : D} {b : Bool} (h : Rep B H x d) (e : tru d = some b) : TruV K x H b := by
  cases h with
  | non => cases e; rfl
  | bl c => cases e; rfl
  | int i => cases e; rfl
  | str y =>
    simp only [tru] at e
    split at e
    · rename_i hl
      cases e
      exact ⟨lim_line hl, rfl⟩
    · cases e
  | lst n hx r =>
    rename_i a xs ds
    cases e
    refine .inl ⟨xs, SqL.of hx, ?_⟩
    cases r <;> rfl
  | tup n hx r =>
    rename_i a xs ds
    cases e
    refine .inr (.inl ⟨xs, (.inl hx), ?_⟩)
    cases r <;> rfl
  | dct n hx r =>
    rename_i a xs ds
    cases e
    refine .inr (.inr ⟨xs, hx, ?_⟩)
    cases r <;> rfl
end
end Slim

set_option Elab.async false
set_option linter.all false
set_option maxRecDepth 100000
set_option maxHeartbeats 4000000
/-! SLIM 4: items, slices, built-in functions. -/
namespace Slim
open PySem PySem.Spec PyProof.Rows L2
section
variable {X : Cx} {pins : List (Addr × Obj)} {σ : L2.St} {H : Hp} {s : Shared} {B : Addr → Prop}

theorem atI_rep {xs : List V} {ds : List D} (r : RepAll B H xs ds) {i : Int} {d : D} (e : atI ds i = some d) : ∃ v, atI xs i = some v ∧ Rep B H v d := by
  unfold atI at *
  rw [r.length]
  cases h : ixN ds.length i with
  | none => rw [h] at e; cases e
  | some j =>
    rw [h] at e
    exact r.get e
theorem keyOf_rep {y : V} {d : D} {k : Key} (h : Rep B H y d) (e : keyOf d = some k) : y = kV k := by
  cases h <;> simp only [keyOf, Option.some.injEq, reduceCtorEq] at e <;> subst e <;> rfl
theorem keyOf_keyD (k : Key) : keyOf (keyD k) = some k := by cases k <;> rfl
theorem look_rep {k : Key} {d : D} : ∀ {kvs : List (Key × V)} {ks : List (D × D)}, RepKv B H kvs ks → look ks k = some d → ∃ v, valV kvs k = some v ∧ Rep B H v d
  | _, _, .nil, e => by simp [look] at e
  | _, _, .cons (k := k') (v := v') (r := r') (d := d') (ds := ds') a r, e => by
    simp only [look, keyOf_keyD, Option.some.injEq] at e
    split at e
    · rename_i hk
      cases e
      refine ⟨v', ?_, a⟩
      unfold valV
      rw [List.find?_cons_of_pos (by simpa using hk)]
      rfl
    · rename_i hk
      obtain ⟨v, h1, h2⟩ := look_rep r e
      refine ⟨v, ?_, h2⟩
      unfold valV at *
      rw [List.find?_cons_of_neg (by simpa using hk)]
      exact h1
theorem r_ix (hu : X.A.units + 64 < cLine) : IxR X (rOp idxD) := by
  intro value slice pins s σ H x y v u Q I rx ry h hs
  obtain ⟨B, dx, dy, d, hd, h1, h2, e, q⟩ := h
  cases dx with
  | list xs =>
    cases dy <;> simp only [idxD, reduceCtorEq] at e
    case int i =>
      obtain ⟨a, vs, rfl, _, ha, ra⟩ := h1.lstAt
      cases h2.intAt
      obtain ⟨w', e1, r1⟩ := atI_rep ra e
      exact ix_list value slice pins s σ H _ _ v u Q I rx ry ⟨a, vs, i, w', rfl, rfl, SqL.of ha, e1, q _ H Kp.refl r1⟩ hs
  | tuple xs =>
    cases dy <;> simp only [idxD, reduceCtorEq] at e
    case int i =>
      obtain ⟨a, vs, rfl, _, ha, ra⟩ := h1.tupAt
      cases h2.intAt
      obtain ⟨w', e1, r1⟩ := atI_rep ra e
      exact ix_tup value slice pins s σ H _ _ v u Q I rx ry ⟨a, vs, i, w', rfl, rfl, (.inl ha), e1, q _ H Kp.refl r1⟩ hs
  | dict ks =>
    simp only [idxD] at e
    split at e
    · rename_i k hk
      cases h1 with
      | dct hb ha ra =>
        rename_i a kvs
        obtain ⟨w', e1, r1⟩ := look_rep ra e
        have ey := keyOf_rep h2 hk
        subst ey
        have g : DGet H a (kV k) (some w') := by
          have := DGet.k (k := k) ha
          rw [e1] at this
          exact this
        cases rx
        refine tail_any (dict_typeIs I g) PySem.F.slot_dict_getitem.lookup (d_getItem (by omega) I g ry fun w2 s' I' r' => ⟨w', H, I', r', q _ H Kp.refl r1⟩) hs
    · cases e
  | _ => simp only [idxD, reduceCtorEq] at e

theorem cut_rep {xs : List V} {ds : List D} (r : RepAll B H xs ds) (lo hi : Option Int) : RepAll B H (cutV xs lo hi) (cutD ds lo hi) := by
  unfold cutV cutD
  rw [r.length]
  exact (r.drop _).take _
def rSl : V → Option Int → Option Int → Hp → VK → Prop := fun x lo hi H Q => ∃ B dx d, Dom B H ∧ Rep B H x dx ∧ slcD dx lo hi = some d ∧ ∀ v H', Kp All H H' → Rep B H' v d → FreshAt H v d → Q v H'
theorem r_slc : SlR X rSl := by
  intro pins s σ H x v vl vu lo hi sl Q I rx hs pl pu h
  obtain ⟨B, dx, d, hd, h1, e, q⟩ := h
  cases dx <;> simp only [slcD, reduceCtorEq] at e
  case list xs =>
    cases e
    obtain ⟨a, vs, rfl, _, ha, ra⟩ := h1.lstAt
    exact sl_list pins s σ H _ v vl vu lo hi sl Q I rx hs pl pu ⟨a, vs, rfl, SqL.of ha, fun p hp => q _ _ (Kp.new hp) (Rep.newL hd (cut_rep ra lo hi) hp) fun _ _ => ⟨p, rfl, hp⟩⟩
  case tuple xs =>
    cases e
    obtain ⟨a, vs, rfl, _, ha, ra⟩ := h1.tupAt
    refine sl_tupA pins s σ H _ v vl vu lo hi sl Q I rx hs pl pu ⟨a, vs, rfl, (.inl ha), fun z => ?_, fun _ p hp => q _ _ (Kp.new hp) (Rep.newT hd (cut_rep ra lo hi) hp) nofun⟩
    have e1 : cutD xs lo hi = xs := by
      unfold cutD
      rw [← ra.length, z.1, z.2]
      simp [ra.length]
    rw [e1] at q
    exact q _ H Kp.refl h1 nofun

/-! ### built-in functions -/

/-- a built-in function by data -/
def rBl (f : List D → Option D) : List V → Hp → VK → Prop := fun xs H Q => ∃ B ds d, Dom B H ∧ RepAll B H xs ds ∧ f ds = some d ∧ ∀ v H', Kp All H H' → Rep B H' v d → Q v H'
theorem Rep.one {xs : List V} {d : D} (r : RepAll B H xs [d]) : ∃ x, xs = [x] ∧ Rep B H x d := by
  cases r with
  | cons a b => cases b; exact ⟨_, rfl, a⟩
theorem Rep.two {xs : List V} {d e : D} (r : RepAll B H xs [d, e]) : ∃ x y, xs = [x, y] ∧ Rep B H x d ∧ Rep B H y e := by
  cases r with
  | cons a b => cases b with | cons c b => cases b; exact ⟨_, _, rfl, a, c⟩
theorem intsOf_eq : ∀ {ds : List D} {ns : List Int}, intsOf ds = some ns → ds = ns.map .int
  | [], ns, h => by simp [intsOf] at h; subst h; rfl
  | .int i :: r, ns, h => by
    simp only [intsOf, Option.map_eq_some_iff] at h
    obtain ⟨ms, h1, rfl⟩ := h
    rw [intsOf_eq h1]; rfl
  | .none :: _, _, h => by simp [intsOf] at h
  | .bool _ :: _, _, h => by simp [intsOf] at h
  | .str _ :: _, _, h => by simp [intsOf] at h
  | .list _ :: _, _, h => by simp [intsOf] at h
  | .tuple _ :: _, _, h => by simp [intsOf] at h
  | .dict _ :: _, _, h => by simp [intsOf] at h
theorem boolsOf_eq : ∀ {ds : List D} {ns : List Bool}, boolsOf ds = some ns → ds = ns.map .bool
  | [], ns, h => by simp [boolsOf] at h; subst h; rfl
  | .bool i :: r, ns, h => by
    simp only [boolsOf, Option.map_eq_some_iff] at h
    obtain ⟨ms, h1, rfl⟩ := h
    rw [boolsOf_eq h1]; rfl
  | .none :: _, _, h => by simp [boolsOf] at h
  | .int _ :: _, _, h => by simp [boolsOf] at h
  | .str _ :: _, _, h => by simp [boolsOf] at h
  | .list _ :: _, _, h => by simp [boolsOf] at h
  | .tuple _ :: _, _, h => by simp [boolsOf] at h
  | .dict _ :: _, _, h => by simp [boolsOf] at h

theorem un_inv {f : D → Option D} {ds : List D} {d : D} (h : un f ds = some d) : ∃ d0, ds = [d0] ∧ f d0 = some d := by
  match ds, h with
  | [d0], h => exact ⟨d0, rfl, h⟩
theorem bi_inv {f : D → D → Option D} {ds : List D} {d : D} (h : bi f ds = some d) : ∃ d0 d1, ds = [d0, d1] ∧ f d0 d1 = some d := by
  match ds, h with
  | [d0, d1], h => exact ⟨d0, d1, rfl, h⟩

/-- of one argument -/
def rU1 (f : D → Option D) : List V → Hp → VK → Prop := fun xs H Q => ∃ B x d0 d, xs = [x] ∧ Dom B H ∧ Rep B H x d0 ∧ f d0 = some d ∧ ∀ v H', Kp All H H' → Rep B H' v d → Q v H'
theorem CallR.un {fv : Value} {f : D → Option D} (h : CallR X fv (rU1 f)) : CallR X fv (rBl (un f)) := by
  intro pins s σ H xs us Q I r z
  obtain ⟨B, ds, d, hd, hr, e, q⟩ := z
  obtain ⟨d0, rfl, e0⟩ := un_inv e
  obtain ⟨x, rfl, rx⟩ := Rep.one hr
  exact h pins s σ H _ us Q I r ⟨B, x, d0, d, rfl, hd, rx, e0, q⟩
def rU1F (f : D → Option D) : List V → Hp → VK → Prop := fun xs H Q => ∃ B x d0 d, xs = [x] ∧ Dom B H ∧ Rep B H x d0 ∧ f d0 = some d ∧ ∀ v H', Kp All H H' → Rep B H' v d → FreshAt H v d → Q v H'
theorem CallR.unF {fv : Value} {f : D → Option D} (h : CallR X fv (rU1F f)) : CallR X fv (rU1 f) := by
  intro pins s σ H xs us Q I r z
  obtain ⟨B, x, d0, d, h1, h2, h3, h4, q⟩ := z
  exact h pins s σ H xs us Q I r ⟨B, x, d0, d, h1, h2, h3, h4, fun v H' k r _ => q v H' k r⟩
def rU2 (f : D → D → Option D) : List V → Hp → VK → Prop := fun xs H Q => ∃ B x y d0 d1 d, xs = [x, y] ∧ Dom B H ∧ Rep B H x d0 ∧ Rep B H y d1 ∧ f d0 d1 = some d ∧ ∀ v H', Kp All H H' → Rep B H' v d → Q v H'
theorem CallR.bi {fv : Value} {f : D → D → Option D} (h : CallR X fv (rU2 f)) : CallR X fv (rBl (bi f)) := by
  intro pins s σ H xs us Q I r z
  obtain ⟨B, ds, d, hd, hr, e, q⟩ := z
  obtain ⟨d0, d1, rfl, e0⟩ := bi_inv e
  obtain ⟨x, y, rfl, rx, ry⟩ := Rep.two hr
  exact h pins s σ H _ us Q I r ⟨B, x, y, d0, d1, d, rfl, hd, rx, ry, e0, q⟩

theorem b_len : CallR X (.builtin "len") (rU1 lenD) := by
  intro pins s σ H xs us Q I r h
  obtain ⟨B, x, d0, d, rfl, hd, hx, e, q⟩ := h
  cases d0 <;> simp only [lenD, reduceCtorEq] at e
  case list ys =>
    cases e
    obtain ⟨a, vs, rfl, _, ha, ra⟩ := hx.lstAt
    refine call_len pins s σ H _ us Q I r ⟨.ref a, vs.length, rfl, .inl ⟨vs, SqL.of ha, rfl⟩, ?_⟩
    rw [ra.length]
    exact q _ H Kp.refl (.int _)
  case tuple ys =>
    cases e
    obtain ⟨a, vs, rfl, _, ha, ra⟩ := hx.tupAt
    refine call_len pins s σ H _ us Q I r ⟨.ref a, vs.length, rfl, .inr ⟨vs, (.inl ha), rfl⟩, ?_⟩
    rw [ra.length]
    exact q _ H Kp.refl (.int _)
  case str ys =>
    split at e
    · rename_i hl
      cases e
      cases hx.strAt
      exact call_len pins s σ H _ us Q I r ⟨.str ys, ys.length, rfl, ⟨lim_line hl, rfl⟩, q _ H Kp.refl (.int _)⟩
    · cases e
theorem b_abs : CallR X (.builtin "abs") (rU1 absD) := by
  intro pins s σ H xs us Q I r h
  obtain ⟨B, x, d0, d, rfl, hd, hx, e, q⟩ := h
  cases d0 <;> simp only [absD, reduceCtorEq] at e
  case int i =>
    cases e
    cases hx.intAt
    exact call_abs pins s σ H _ us Q I r ⟨i, rfl, q _ H Kp.refl (.int _)⟩
theorem b_int : CallR X (.type "int") (rU1 intD) := by
  intro pins s σ H xs us Q I r h
  obtain ⟨B, x, d0, d, rfl, hd, hx, e, q⟩ := h
  cases d0 <;> simp only [intD, reduceCtorEq] at e
  case int i =>
    cases e
    cases hx.intAt
    exact call_int1 pins s σ H _ us Q I r (.inl ⟨i, rfl, q _ H Kp.refl (.int _)⟩)
theorem b_max2 (hc : X.calm = true) : CallR X (.builtin "max") (rU2 max2D) := by
  intro pins s σ H xs us Q I r h
  obtain ⟨B, x, y, d0, d1, d, rfl, hd, hx, hy, e, q⟩ := h
  cases d0 <;> cases d1 <;> simp only [max2D, reduceCtorEq] at e
  case int.int i j =>
    cases e
    cases hx.intAt; cases hy.intAt
    exact call_max2 hc pins s σ H _ us Q I r ⟨i, j, rfl, q _ H Kp.refl (.int _)⟩
theorem b_min2 (hc : X.calm = true) : CallR X (.builtin "min") (rU2 min2D) := by
  intro pins s σ H xs us Q I r h
  obtain ⟨B, x, y, d0, d1, d, rfl, hd, hx, hy, e, q⟩ := h
  cases d0 <;> cases d1 <;> simp only [min2D, reduceCtorEq] at e
  case int.int i j =>
    cases e
    cases hx.intAt; cases hy.intAt
    exact call_min2 hc pins s σ H _ us Q I r ⟨i, j, rfl, q _ H Kp.refl (.int _)⟩
theorem b_gcd : CallR X (.builtin "math.gcd") (rU2 gcdD) := by
  intro pins s σ H xs us Q I r h
  obtain ⟨B, x, y, d0, d1, d, rfl, hd, hx, hy, e, q⟩ := h
  cases d0 <;> cases d1 <;> simp only [gcdD, reduceCtorEq] at e
  case int.int i j =>
    cases e
    cases hx.intAt; cases hy.intAt
    exact cr_gcd pins s σ H _ us Q I r ⟨i, j, rfl, q _ H Kp.refl (.int _)⟩
theorem b_all (hc : X.calm = true) : CallR X (.builtin "all") (rU1 allD) := by
  intro pins s σ H xs us Q I r h
  obtain ⟨B, x, d0, d, rfl, hd, hx, e, q⟩ := h
  cases d0 <;> simp only [allD, Option.map_eq_some_iff, reduceCtorEq] at e
  case list ys =>
    obtain ⟨bs, e1, rfl⟩ := e
    obtain ⟨a, vs, rfl, _, ha, ra⟩ := hx.lstAt
    rw [boolsOf_eq e1] at ra
    have := ra.bools
    subst this
    exact cr_all hc pins s σ H _ us Q I r ⟨a, bs, rfl, SqL.of ha, q _ H Kp.refl (.bl _)⟩
theorem b_any (hc : X.calm = true) : CallR X (.builtin "any") (rU1 anyD) := by
  intro pins s σ H xs us Q I r h
  obtain ⟨B, x, d0, d, rfl, hd, hx, e, q⟩ := h
  cases d0 <;> simp only [anyD, Option.map_eq_some_iff, reduceCtorEq] at e
  case list ys =>
    obtain ⟨bs, e1, rfl⟩ := e
    obtain ⟨a, vs, rfl, _, ha, ra⟩ := hx.lstAt
    rw [boolsOf_eq e1] at ra
    have := ra.bools
    subst this
    exact cr_any hc pins s σ H _ us Q I r ⟨a, bs, rfl, SqL.of ha, q _ H Kp.refl (.bl _)⟩
theorem b_tup : CallR X (.type "tuple") (rU1 tupD) := by
  intro pins s σ H xs us Q I r h
  obtain ⟨B, x, d0, d, rfl, hd, hx, e, q⟩ := h
  cases d0 <;> simp only [tupD, reduceCtorEq] at e
  case list ys =>
    cases e
    obtain ⟨a, vs, rfl, _, ha, ra⟩ := hx.lstAt
    exact call_tuple_of pins s σ H _ us Q I r ⟨a, vs, rfl, .inl ⟨SqL.of ha, fun p hp => q _ _ (Kp.new hp) (Rep.newT hd ra hp)⟩⟩
  case tuple ys =>
    cases e
    obtain ⟨a, vs, rfl, _, ha, ra⟩ := hx.tupAt
    exact call_tuple_of pins s σ H _ us Q I r ⟨a, vs, rfl, .inr ⟨(.inl ha), q _ H Kp.refl hx⟩⟩
theorem b_lstF : CallR X (.type "list") (rU1F lstD) := by
  intro pins s σ H xs us Q I r h
  obtain ⟨B, x, d0, d, rfl, hd, hx, e, q⟩ := h
  cases d0 <;> simp only [lstD, reduceCtorEq] at e
  case list ys =>
    cases e
    obtain ⟨a, vs, rfl, _, ha, ra⟩ := hx.lstAt
    exact call_list_of pins s σ H _ us Q I r ⟨a, vs, rfl, .inl (SqL.of ha), fun p hp => q _ _ (Kp.new hp) (Rep.newL hd ra hp) fun _ _ => ⟨p, rfl, hp⟩⟩
  case tuple ys =>
    cases e
    obtain ⟨a, vs, rfl, _, ha, ra⟩ := hx.tupAt
    exact call_list_of pins s σ H _ us Q I r ⟨a, vs, rfl, .inr ((.inl ha)), fun p hp => q _ _ (Kp.new hp) (Rep.newL hd ra hp) fun _ _ => ⟨p, rfl, hp⟩⟩
theorem b_lst : CallR X (.type "list") (rU1 lstD) := CallR.unF b_lstF

/-- isinstance(x, T) -/
def rIsa (T : String) (f : D → Bool) : List V → Hp → VK → Prop := fun xs H Q => ∃ B x d, xs = [x, .ty T] ∧ Rep B H x d ∧ Q (.bl (f d)) H
theorem isa_of {T : String} {f : D → Bool} (h : ∀ {s : Shared} {v : Value} {d : D} {as : List Addr} {Q : Value → Shared → Prop}, Reads s.heap v d as → (∀ tk, s.toks ≤ tk → Q (.bool (f d)) { s with toks := tk }) →
    wpAny (model X.prog X.w) X.A (call (.builtin "isinstance") [v, .type T]) Q X.xe s) : CallR X (.builtin "isinstance") (rIsa T f) := by
  intro pins s σ H xs us Q I r z
  obtain ⟨B, x, d, rfl, hx, q⟩ := z
  obtain ⟨u, w', rfl, r1, r2⟩ := vals2 r
  cases r2
  obtain ⟨as, rd⟩ := hx.reads I d _ _ r1
  exact h rd fun tk _ => ⟨.bl _, H, I.tok tk, rfl, q⟩
theorem b_isint : CallR X (.builtin "isinstance") (rIsa "int" isIntD) := isa_of fun r h => PySem.W.isinstance_int_data r fun tk l => by
  have e : ∀ d : D, d.isInt = isIntD d := fun d => by cases d <;> rfl
  rw [e]; exact h tk l
theorem b_isbool : CallR X (.builtin "isinstance") (rIsa "bool" isBoolD) := isa_of fun r h => PySem.W.isinstance_bool_data r fun tk l => by
  have e : ∀ d : D, d.isBool = isBoolD d := fun d => by cases d <;> rfl
  rw [e]; exact h tk l
theorem b_istup : CallR X (.builtin "isinstance") (rIsa "tuple" isTupD) := isa_of fun r h => PySem.W.isinstance_tuple_data r fun tk l => by
  have e : ∀ d : D, d.isTuple = isTupD d := fun d => by cases d <;> rfl
  rw [e]; exact h tk l
theorem b_isstr : CallR X (.builtin "isinstance") (rIsa "str" isStrD) := isa_of fun r h => PySem.W.isinstance_str_data r fun tk l => by
  have e : ∀ d : D, d.isStr = isStrD d := fun d => by cases d <;> rfl
  rw [e]; exact h tk l
theorem b_sortF : CallR X (.builtin "sorted") (rU1F sortD) := by
  intro pins s σ H xs us Q I r h
  obtain ⟨B, x, d0, d, rfl, hd, hx, e, q⟩ := h
  cases d0 <;> simp only [sortD, Option.map_eq_some_iff, reduceCtorEq] at e
  case list ys =>
    obtain ⟨ns, e1, rfl⟩ := e
    obtain ⟨a, vs, rfl, _, ha, ra⟩ := hx.lstAt
    rw [intsOf_eq e1] at ra
    have := ra.ints
    subst this
    refine cr_sortedI pins s σ H _ us Q I r ⟨a, ns, rfl, SqL.of ha, fun ns' p h1 h2 hp => ?_⟩
    have e2 : ns' = ns.mergeSort fun a b => decide (a ≤ b) := by
      have h3 : (ns.mergeSort fun a b => decide (a ≤ b)).Perm ns := List.mergeSort_perm _ _
      have h4 : (ns.mergeSort fun a b => decide (a ≤ b)).Pairwise (· ≤ ·) := by
        have := List.pairwise_mergeSort (le := fun a b : Int => decide (a ≤ b)) (fun a b c h1 h2 => by simp only [decide_eq_true_eq] at *; omega) (fun a b => by simp only [Bool.or_eq_true, decide_eq_true_eq]; omega) ns
        exact this.imp fun h => of_decide_eq_true h
      exact List.Perm.eq_of_pairwise (fun a b _ _ h5 h6 => Int.le_antisymm h5 h6) h2 h4 (h1.trans h3.symm)
    subst e2
    exact q _ _ (Kp.new hp) (Rep.newL hd (RepAll.of_ints _) hp) fun _ _ => ⟨p, rfl, hp⟩
theorem b_sort : CallR X (.builtin "sorted") (rU1 sortD) := CallR.unF b_sortF
end
end Slim

set_option Elab.async false
set_option linter.all false
set_option maxRecDepth 100000
set_option maxHeartbeats 4000000
/-! SLIM 5: sum, max, min, repr. -/
namespace Slim
open PySem PySem.Spec PyProof.Rows L2 PySem.P PySem.SeqAt PySem.W
section
variable {X : Cx} {pins : List (Addr × Obj)} {σ : L2.St} {H : Hp} {s : Shared} {B : Addr → Prop}

theorem b_sum (hc : X.calm = true) : CallR X (.builtin "sum") (rU1 sumD) := by
  intro pins s σ H xs us Q I r h
  obtain ⟨B, x, d0, d, rfl, hd, hx, e, q⟩ := h
  unfold sumD at e
  cases d0 <;> simp only [seqOf, Option.bind_none, Option.bind_some, Option.map_eq_some_iff, reduceCtorEq] at e
  case list ys =>
    obtain ⟨ns, e1, rfl⟩ := e
    obtain ⟨a, vs, rfl, _, ha, ra⟩ := hx.lstAt
    rw [intsOf_eq e1] at ra
    have := ra.ints
    subst this
    exact cr_sum hc pins s σ H _ us Q I r ⟨a, ns, rfl, SqL.of ha, q _ H Kp.refl (.int _)⟩
  case tuple ys =>
    obtain ⟨ns, e1, rfl⟩ := e
    obtain ⟨a, vs, rfl, _, ha, ra⟩ := hx.tupAt
    rw [intsOf_eq e1] at ra
    have := ra.ints
    subst this
    obtain ⟨its, rv, ht, _⟩ := I.tuple (.inl ha)
    rw [Vals.ref1 r]
    have hi : IntsAre its ns := rv.ints
    have hl : s.heap.IsTuple a its.toArray := ht
    obtain ⟨zs, hz⟩ := hi.allInts.items
    have hn : PySem.numsOf its.toArray.toList = ns := by rw [show its.toArray.toList = its from rfl, hi.numsOf]
    have hz' : its.toArray = intItems zs := by first | exact hz | simpa using hz
    rw [hz'] at hl hn
    rw [PySem.nums_intItems] at hn
    refine PySem.W.ktm_sumG (I.ok.hd hc) hl fun h' tk t' hk => ?_
    have e2 : preSum (numAt zs) zs.size = ns.sum := by rw [preSum_eq, List.take_of_length_le (by simp), hn]
    rw [e2]
    exact ⟨.int _, H, I.kept hk, ⟨_, rfl⟩, q _ H Kp.refl (.int _)⟩

theorem alike_ints2 (ns : List Int) : AlikeAll (ns.map PyData.int) := by
  refine ⟨fun x hx y hy => ?_, fun x hx => ?_⟩
  · obtain ⟨i, _, rfl⟩ := List.mem_map.mp hx
    obtain ⟨j, _, rfl⟩ := List.mem_map.mp hy
    rfl
  · obtain ⟨i, _, rfl⟩ := List.mem_map.mp hx
    nofun
theorem reads_int {h : Heap} {v : Value} {i : Int} {as : List Addr} (r : Reads h v (.int i) as) : RelV (.int i) v := by
  cases r
  exact ⟨_, rfl⟩
theorem depth_ints0 : ∀ ns : List Int, PyData.depthAll (ns.map PyData.int) = 0
  | [] => rfl
  | n :: ns => by
    rw [List.map_cons, PyData.depthAll, depth_ints0 ns]
    rfl
theorem b_max1 (hc : X.calm = true) (hu : X.A.units + 64 < cLine) : CallR X (.builtin "max") (rU1 max1D) := by
  intro pins s σ H xs us Q I r h
  obtain ⟨B, x, d0, d, rfl, hd, hx, e, q⟩ := h
  unfold max1D at e
  cases d0 <;> simp only [seqOf, Option.bind_none, Option.bind_some, Option.map_eq_some_iff, Option.bind_eq_some_iff, reduceCtorEq] at e
  case list ys =>
    obtain ⟨m, ⟨ns, e1, e2⟩, rfl⟩ := e
    obtain ⟨a, vs, rfl, _, ha, ra⟩ := hx.lstAt
    rw [intsOf_eq e1] at ra
    cases ns with
    | nil => cases e2
    | cons n ns =>
      cases e2
      obtain ⟨its, rv, hl, _⟩ := I.list (SqL.of ha)
      obtain ⟨as, hr⟩ := ra.reads I _ _ its rv
      rw [Vals.ref1 r]
      refine max_list_data (x := .int n) (xs := ns.map .int) (I.ok.hd hc) hl.isList (by simpa using hr) (alike_ints2 (n :: ns)) (by have := depth_ints0 (n :: ns); simp only [List.map_cons] at this; rw [this]; omega) fun i v h' tk bs hv hr' hk => ?_
      rw [maxD_ints] at hr'
      exact ⟨.int _, H, I.kept hk, reads_int hr', q _ H Kp.refl (.int _)⟩
  case tuple ys =>
    obtain ⟨m, ⟨ns, e1, e2⟩, rfl⟩ := e
    obtain ⟨a, vs, rfl, _, ha, ra⟩ := hx.tupAt
    rw [intsOf_eq e1] at ra
    cases ns with
    | nil => cases e2
    | cons n ns =>
      cases e2
      obtain ⟨its, rv, hl, _⟩ := I.tuple (.inl ha)
      obtain ⟨as, hr⟩ := ra.reads I _ _ its rv
      rw [Vals.ref1 r]
      refine max_tuple_data (x := .int n) (xs := ns.map .int) (I.ok.hd hc) hl (by simpa using hr) (alike_ints2 (n :: ns)) (by have := depth_ints0 (n :: ns); simp only [List.map_cons] at this; rw [this]; omega) fun i v h' tk bs hv hr' hk => ?_
      rw [maxD_ints] at hr'
      exact ⟨.int _, H, I.kept hk, reads_int hr', q _ H Kp.refl (.int _)⟩
theorem b_min1 (hc : X.calm = true) (hu : X.A.units + 64 < cLine) : CallR X (.builtin "min") (rU1 min1D) := by
  intro pins s σ H xs us Q I r h
  obtain ⟨B, x, d0, d, rfl, hd, hx, e, q⟩ := h
  unfold min1D at e
  cases d0 <;> simp only [seqOf, Option.bind_none, Option.bind_some, Option.map_eq_some_iff, Option.bind_eq_some_iff, reduceCtorEq] at e
  case list ys =>
    obtain ⟨m, ⟨ns, e1, e2⟩, rfl⟩ := e
    obtain ⟨a, vs, rfl, _, ha, ra⟩ := hx.lstAt
    rw [intsOf_eq e1] at ra
    cases ns with
    | nil => cases e2
    | cons n ns =>
      cases e2
      obtain ⟨its, rv, hl, _⟩ := I.list (SqL.of ha)
      obtain ⟨as, hr⟩ := ra.reads I _ _ its rv
      rw [Vals.ref1 r]
      refine min_list_data (x := .int n) (xs := ns.map .int) (I.ok.hd hc) hl.isList (by simpa using hr) (alike_ints2 (n :: ns)) (by have := depth_ints0 (n :: ns); simp only [List.map_cons] at this; rw [this]; omega) fun i v h' tk bs hv hr' hk => ?_
      rw [minD_ints] at hr'
      exact ⟨.int _, H, I.kept hk, reads_int hr', q _ H Kp.refl (.int _)⟩
  case tuple ys =>
    obtain ⟨m, ⟨ns, e1, e2⟩, rfl⟩ := e
    obtain ⟨a, vs, rfl, _, ha, ra⟩ := hx.tupAt
    rw [intsOf_eq e1] at ra
    cases ns with
    | nil => cases e2
    | cons n ns =>
      cases e2
      obtain ⟨its, rv, hl, _⟩ := I.tuple (.inl ha)
      obtain ⟨as, hr⟩ := ra.reads I _ _ its rv
      rw [Vals.ref1 r]
      refine min_tuple_data (x := .int n) (xs := ns.map .int) (I.ok.hd hc) hl (by simpa using hr) (alike_ints2 (n :: ns)) (by have := depth_ints0 (n :: ns); simp only [List.map_cons] at this; rw [this]; omega) fun i v h' tk bs hv hr' hk => ?_
      rw [minD_ints] at hr'
      exact ⟨.int _, H, I.kept hk, reads_int hr', q _ H Kp.refl (.int _)⟩

/-- max(x, default=d), d a scalar -/
theorem b_maxd {x v0 : V} {B : Addr → Prop} {d0 dd d : D} {u w0 : Value} {Q : VK} (hc : X.calm = true) (hu : X.A.units + 64 < cLine) (I : Inv X pins σ H s) (rx : RelV x u) (rv0 : RelV v0 w0)
    (hx : Rep B H x d0) (hv : Rep B H v0 dd) (e : maxdD dd d0 = some d) (q : ∀ v H', Kp All H H' → Rep B H' v d → Q v H') :
    wpAny (model X.prog X.w) X.A (call (.builtin "max") [u] [(Str.ofString "default", w0)]) (EP X pins σ Q) X.xe s := by
  cases d0 <;> simp only [maxdD, Option.map_eq_some_iff, reduceCtorEq] at e
  case list ys =>
    obtain ⟨ns, e1, rfl⟩ := e
    obtain ⟨a, vs, rfl, _, ha, ra⟩ := hx.lstAt
    rw [intsOf_eq e1] at ra
    obtain ⟨its, rv, hl, _⟩ := I.list (SqL.of ha)
    obtain ⟨as, hr⟩ := ra.reads I _ _ its rv
    cases rx
    refine max_list_default (xs := ns.map .int) (I.ok.hd hc) hl.isList (by simpa using hr) (alike_ints2 ns) (by rw [depth_ints0]; omega) (fun h0 h' tk hk => ?_) fun y ys i v h' tk bs hy hv' hr' hk => ?_
    · have : ns = [] := by simpa using h0
      subst this
      exact ⟨v0, H, I.kept hk, rv0, q _ H Kp.refl hv⟩
    · cases ns with
      | nil => cases hy
      | cons n ns =>
        cases hy
        rw [maxD_ints] at hr'
        exact ⟨.int _, H, I.kept hk, reads_int hr', q _ H Kp.refl (.int _)⟩
theorem b_mind {x v0 : V} {B : Addr → Prop} {d0 dd d : D} {u w0 : Value} {Q : VK} (hc : X.calm = true) (hu : X.A.units + 64 < cLine) (I : Inv X pins σ H s) (rx : RelV x u) (rv0 : RelV v0 w0)
    (hx : Rep B H x d0) (hv : Rep B H v0 dd) (e : mindD dd d0 = some d) (q : ∀ v H', Kp All H H' → Rep B H' v d → Q v H') :
    wpAny (model X.prog X.w) X.A (call (.builtin "min") [u] [(Str.ofString "default", w0)]) (EP X pins σ Q) X.xe s := by
  cases d0 <;> simp only [mindD, Option.map_eq_some_iff, reduceCtorEq] at e
  case list ys =>
    obtain ⟨ns, e1, rfl⟩ := e
    obtain ⟨a, vs, rfl, _, ha, ra⟩ := hx.lstAt
    rw [intsOf_eq e1] at ra
    obtain ⟨its, rv, hl, _⟩ := I.list (SqL.of ha)
    obtain ⟨as, hr⟩ := ra.reads I _ _ its rv
    cases rx
    refine min_list_default (xs := ns.map .int) (I.ok.hd hc) hl.isList (by simpa using hr) (alike_ints2 ns) (by rw [depth_ints0]; omega) (fun h0 h' tk hk => ?_) fun y ys i v h' tk bs hy hv' hr' hk => ?_
    · have : ns = [] := by simpa using h0
      subst this
      exact ⟨v0, H, I.kept hk, rv0, q _ H Kp.refl hv⟩
    · cases ns with
      | nil => cases hy
      | cons n ns =>
        cases hy
        rw [minD_ints] at hr'
        exact ⟨.int _, H, I.kept hk, reads_int hr', q _ H Kp.refl (.int _)⟩
theorem showOk_of {d : D} (h : showOk d = true) : d.showable = true ∧ d.hasDict = false ∧ d.depth ≤ 60 ∧ d.shown.length ≤ 1000000 := by
  unfold showOk at h
  simp only [Bool.and_eq_true, Bool.not_eq_true', decide_eq_true_eq] at h
  exact ⟨h.1.1.1, h.1.1.2, h.1.2, h.2⟩
theorem b_repr (hg : X.A.guards = some []) (hu : X.A.units + 64 < cLine) : CallR X (.builtin "repr") (rU1 reprD) := by
  intro pins s σ H xs us Q I r h
  obtain ⟨B, x, d0, d, rfl, hd, hx, e, q⟩ := h
  unfold reprD at e
  split at e
  · rename_i hk
    cases e
    obtain ⟨k1, k2, k3, k4⟩ := showOk_of hk
    obtain ⟨u, rfl, ru⟩ := vals1 r
    obtain ⟨as, rd⟩ := hx.reads I d0 x u ru
    have hz : d0.shown.length ≤ sizeLine := Nat.le_trans k4 (by decide)
    have fin : ∀ h' t tk, (∀ b o, s.heap.get? b = some o → h'.get? b = some o) → EP X pins σ Q (.str d0.shown t) { s with heap := h', toks := tk } := fun h' t tk hk =>
      ⟨.str _, H, I.kept hk, ⟨_, rfl⟩, q _ H Kp.refl (.str _)⟩
    have fin0 : ∀ t tk, EP X pins σ Q (.str d0.shown t) { s with toks := tk } := fun t tk => ⟨.str _, H, I.tok tk, ⟨_, rfl⟩, q _ H Kp.refl (.str _)⟩
    cases rd with
    | none => exact repr_of_none (fin0 _ _)
    | bool b =>
      refine repr_of_bool ?_
      have := fin0 s.toks (s.toks + 1)
      simp only [PyData.shown] at this
      exact this
    | int i t =>
      refine repr_of_int (by simpa [PyData.showable] using k1) ?_
      have := fin0 s.toks (s.toks + 1)
      simp only [PyData.shown] at this
      exact this
    | str y t =>
      have := fin0 s.toks (s.toks + 1)
      simp only [PyData.shown] at this hz
      exact repr_of_str this hz
    | list h1 h2 h3 h4 => exact repr_of_reads' (.list h1 h2 h3 h4) k1 (PyData.noDict_hsm k2) hg (by omega) (fun _ _ e => e) fin hz
    | tuple h1 h2 h3 h4 => exact repr_of_reads' (.tuple h1 h2 h3 h4) k1 (PyData.noDict_hsm k2) hg (by omega) (fun _ _ e => e) fin hz
    | dict h1 h2 h3 h4 h5 => exact repr_of_reads' (.dict h1 h2 h3 h4 h5) k1 (PyData.noDict_hsm k2) hg (by omega) (fun _ _ e => e) fin hz
  · cases e
end
end Slim

set_option Elab.async false
set_option linter.all false
set_option maxRecDepth 100000
set_option maxHeartbeats 4000000
/-! SLIM 6: defs called where no repr is under way. -/
namespace Slim
open PySem PySem.Spec PyProof.Rows L2

/-- as the layer's FnOk, where no guard stands around -/
structure FnG (P : Program) (w : World) (K : PySem.W.Frag) (mg : Str → Option Value) (base : Heap) (CX : CXT) (k : Nat) (f : Addr) (fd : FuncData) (ps : List Str) (sp : Sp) : Prop where
  len : ∀ vs H Q E, sp vs H Q E → vs.length = ps.length
  run : ∀ (A : Around) (out : List Env) (s : Shared) (H : Hp) (ar : Args) (us : List Value) (vs : List V) (Q : VK) (E : XK),
    A.guards = some [] → Room k A → Env0 P w K mg base A out s H → BindsTo s fd ar (ps.zip us) → Vals vs us → sp vs H Q E →
    codeAny (model P w) A (.call (.ref f) ar) (CR CX out P w H s Q E) s
section
variable {P : Program} {w : World} {K : PySem.W.Frag} {mg : Str → Option Value} {base : Heap} {CX : CXT}
theorem FnG.mono {j k : Nat} {f : Addr} {fd : FuncData} {ps : List Str} {sp : Sp} (F : FnG P w K mg base CX j f fd ps sp) (h : j ≤ k) : FnG P w K mg base CX k f fd ps sp :=
  ⟨F.len, fun A out s H ar us vs Q E g r => F.run A out s H ar us vs Q E g (r.mono h)⟩
theorem FnG.imp {k : Nat} {f : Addr} {fd : FuncData} {ps : List Str} {sp sp' : Sp} (F : FnG P w K mg base CX k f fd ps sp) (h : ∀ vs H Q E, sp' vs H Q E → sp vs H Q E) : FnG P w K mg base CX k f fd ps sp' :=
  ⟨fun vs H Q E z => F.len vs H Q E (h vs H Q E z), fun A out s H ar us vs Q E g r e b v z => F.run A out s H ar us vs Q E g r e b v (h vs H Q E z)⟩
theorem FnG.of {k : Nat} {f : Addr} {fd : FuncData} {ps : List Str} {sp : Sp} (F : FnOk P w K mg base CX k f fd ps sp) : FnG P w K mg base CX k f fd ps sp :=
  ⟨F.len, fun A out s H ar us vs Q E _ r e b v z => F.run A out s H ar us vs Q E r e b v z⟩

/-- a def by its body -/
theorem Fun.okG {x qual : Str} {st : Stmt} {f : Addr} {fd : FuncData} {N ps : List Str} {k : Nat} {sp : Sp} (F : Fun K x qual st f fd) (S : FnScope N ps (defScope st)) (len : ∀ vs H Q E, sp vs H Q E → vs.length = ps.length)
    (hb : ∀ (cdv : Value) (A : Around) (out : List Env) (s : Shared) (H : Hp) (vs : List V) (Q : VK) (E : XK), A.guards = some [] → Room k (A.deeper (envOfC qual (defScope st) s.heap.objs.size f cdv)) → sp vs H Q E →
      ∃ t, PSs (cxOf CX P w K mg base N qual (defScope st) f cdv A out s H E) (defBody st) t ∧ t { nx := fun _ H' => Q .non H', rt := Q } (start N vs) H) : FnG P w K mg base CX (k + 1) f fd ps sp := by
  obtain ⟨oc, od, kV, doc, pm, an, cdv, ct, osl, rfl, lk, hcd⟩ := F.ex
  refine ⟨len, fun A out s H ar us vs Q E gd room e0 bd rv z => ?_⟩
  have lenV := len vs H Q E z
  have kin : K.In s.heap := e0.mod.kin.keeps (fun b o e => (e0.bs b o e).1)
  have nol : s.heap.NoLimit := e0.mod.nolimit.keeps (fun b o e => (e0.bs b o e).1)
  have kinds : ∀ y ∈ ps.zip us, (defScope st).names.lookup y.1 = some .local ∨ ((defScope st).names.lookup y.1 = some .cell ∧ ((cellsFrom (s.heap.objs.size + 1) (defScope st).names []).lookup y.1).isSome = true) := by
    rintro ⟨n, v⟩ hy
    rcases S.par n (List.of_mem_zip hy).1 with h1 | h1
    · exact Or.inl h1
    · exact Or.inr ⟨h1, PySem.W.cellsFrom_some _ _ _ (Or.inl h1)⟩
  refine codeAny_call_function room.depth (kin _ _ lk) rfl S.co S.gen rfl (PySem.W.codeRec_of kin hcd) (bd _ _ _ _ ?_)
  refine wpAny_newFunctionEnv_cells S.kind kinds (fun env henv s1 in1 => ?_)
  subst henv
  refine ⟨nol.keeps in1.toInCall.keep, codeAny_func ?_⟩
  obtain ⟨t, ht, q⟩ := hb cdv A out s H vs Q E gd (room.deeper _) z
  have J := inv_start (CX := CX) (E := E) S room.hd e0 lenV rv in1
  refine wpAny_mono (ht.run [] s1 (start N vs) H _ J q) (fun fl s' post => ?_) (fun _ _ x => x)
  cases fl with
  | next => obtain ⟨σ', H', J', q'⟩ := post; exact ⟨V.non, H', J'.os, J'.bare, J'.base, J'.hok, rfl, q'⟩
  | ret u => obtain ⟨v, σ', H', J', r', q'⟩ := post; exact ⟨v, H', J'.os, J'.bare, J'.base, J'.hok, r', q'⟩
  | brk => obtain ⟨_, _, _, q'⟩ := post; exact q'.elim
  | cont => obtain ⟨_, _, _, q'⟩ := post; exact q'.elim
end
section
variable {X : Cx} {CX : CXT} {k : Nat} {f : Addr} {fd : FuncData} {ps ks : List Str} {sp : Sp} {E : XK} {x : Str} {p pos : Pos} {e : Expr} {es : List Expr} {kws : List Keyword} {t tk : TA}
theorem run_gen {pins : List (Addr × Obj)} {σ : L2.St} {H : Hp} {s : Shared} {Q : VK} {ar : Args} {us : List Value} {vs : List V} (F : FnG X.prog X.w X.K X.mg X.base CX k f fd ps sp) (gd : X.A.guards = some []) (room : Room k X.A)
    (hb : BindsTo s fd ar (ps.zip us)) (hx : Passes CX X E) (I : Inv X pins σ H s) (r : Vals vs us) (z : sp vs H Q E) : codeAny (model X.prog X.w) X.A (.call (.ref f) ar) (fun r s' => match r with
      | .ok (.ret u) => EP X pins σ Q u s'
      | .ok _ => False
      | .error e => X.xe e s') s := by
  refine codeAny_mono (F.run X.A X.stack s H ar us vs Q E gd room I.env0 hb r z) fun r s' post => ?_
  match r, post with
  | .ok (.ret u), post => exact I.after post
  | .error e, post => exact hx pins σ H s e s' I post
  | .ok .next, post => exact post.elim
  | .ok .brk, post => exact post.elim
  | .ok .cont, post => exact post.elim
theorem wp_code {M : Model} {A : Around} {Q : Value → Shared → Prop} {E : Value → Shared → Prop} {s : Shared} {fv : Value} {us : List Value} {kw : List (Str × Value)} (h : codeAny M A (.call fv ⟨us, kw⟩) (fun r s' => match r with
      | .ok (.ret u) => Q u s'
      | .ok _ => False
      | .error e => E e s') s) : wpAny M A (call fv us kw) Q E s := by
  refine wpAny_call (codeAny_mono h fun r s' post => ?_)
  match r, post with
  | .ok (.ret u), post => exact post
  | .error e, post => exact post
  | .ok .next, post => exact post.elim
  | .ok .brk, post => exact post.elim
  | .ok .cont, post => exact post.elim

/-- f(e, ..), all by position -/
theorem pe_callG (F : FnG X.prog X.w X.K X.mg X.base CX k f fd ps sp) (gd : X.A.guards = some []) (room : Room k X.A) (hg : Gl X x) (hm : X.mg x = some (.ref f)) (hk : PySem.W.keepIn X.K (.ref f) = true) (hb : Binds X.K fd ps []) (hx : Passes CX X E)
    (ha : PA X (e :: es) t) (hdb : (x == ("__debug__" : Str)) = false) (he : starEach (e :: es) X.env = (false, eval e X.env) :: starEach es X.env) (hpl : (backTo pos (starEach es X.env)).any (·.1) = false) :
    PE X (.Call (.Name x p) (e :: es) [] pos) (tCall sp [] E t) := by
  refine ⟨fun pins s σ H Q I h => wpAny_Call_Name_kw (ld_glob I hg hm ?_ hdb)⟩
  refine PySem.W.callWith_K (h₀ := X.base) I.ok.mod.kin hk (thn (ha.run pos pins s σ H _ I h) ?_) he hpl
  rintro us s1 ⟨vs, H1, I1, r, q⟩
  refine ⟨I1.kIn, wp_code ?_⟩
  have q' : sp vs H1 Q E := by simpa using q
  have bd := hb s1 us I1.kIn (by rw [List.append_nil, ← r.length]; exact F.len _ _ _ _ q')
  rw [List.append_nil] at bd
  exact run_gen F gd room bd hx I1 r q'
theorem pe_call0G (F : FnG X.prog X.w X.K X.mg X.base CX k f fd ps sp) (gd : X.A.guards = some []) (room : Room k X.A) (hg : Gl X x) (hm : X.mg x = some (.ref f)) (hk : PySem.W.keepIn X.K (.ref f) = true) (hb : Binds X.K fd ps []) (hx : Passes CX X E)
    (hdb : (x == ("__debug__" : Str)) = false) : PE X (.Call (.Name x p) [] [] pos) (tCall sp [] E tNil) := by
  refine ⟨fun pins s σ H Q I h => wpAny_Call_Name_kw (ld_glob I hg hm ?_ hdb)⟩
  have q' : sp [] H Q E := h
  have bd := hb s [] I.kIn (by have := F.len _ _ _ _ q'; simpa using this)
  exact PySem.W.callWith_K0 I.kIn hk (wp_code (run_gen F gd room bd hx I .nil q'))
end
end Slim

set_option Elab.async false
set_option linter.all false
set_option maxRecDepth 100000
set_option maxHeartbeats 4000000
/-! SLIM 7: contexts, contracts, the look at a text. -/
namespace Slim
open PySem PySem.Spec PyProof.Rows L2

/-! ### what an expression's slots stand for -/
structure ER (S : GS) (i : S.I) (B : Addr → Prop) (τ : Sl) (g : S.G) (σ : L2.St) (H : Hp) : Prop where
  ok : S.ok i g H
  sub : ∀ a, S.bad i a → B a
  dom : Dom B H
  sl : ∀ (j : Nat) d, getD τ j = some d → ∃ v, σ[j]? = some (some v) ∧ Rep B H v d
  dk : ∀ (j : Nat), τ[j]? = some SV.dk → σ[j]? = some (some (S.val i))
  len : τ.length = σ.length
  zs : ∀ x a d, S.cs x = some (a, d) → Rep B H (.ref a) d
section
variable {S : GS} {i : S.I} {B : Addr → Prop} {τ : Sl} {g g' : S.G} {σ : L2.St} {H H' : Hp}
theorem ER.kp (e : ER S i B τ g σ H) (k : Kp (S.bad i) H H') : Kp B H H' := k.mono e.sub
theorem ER.step (e : ER S i B τ g σ H) (k : Kp (S.bad i) H H') (o : S.ok i g' H') : ER S i B τ g' σ H' :=
  ⟨o, e.sub, fun a b => by
    by_cases h : S.bad i a
    · exact S.chg i g' H' a o h
    · obtain ⟨u, h1, h2⟩ := e.dom a b
      exact ⟨u, k a u h1 h, h2⟩,
   fun j d h => let ⟨v, h1, h2⟩ := e.sl j d h; ⟨v, h1, h2.keep (e.kp k)⟩, e.dk, e.len, fun x a d h => (e.zs x a d h).keep (e.kp k)⟩
theorem ER.dom' (e : ER S i B τ g σ H) (k : Kp (S.bad i) H H') (o : S.ok i g' H') : Dom B H' := (e.step k o).dom
theorem GS.same (o : S.ok i g H) (k : Kp All H H') : S.ok i g H' := S.stay i g H H' o fun a u _ h => k a u h (fun z => z)
end


/-- classes of errors: where they stand, the name of their field -/
abbrev Cls := Str → Option (Addr × Str)

/-- what is wanted of an exception -/
def PostX (S : GS) (cls : Cls) (i : S.I) (B : Addr → Prop) (H : Hp) (E : XK) (c : Str) (t : D) (g : S.G) : Prop := match cls c with
  | none => False
  | some (C, f) => ∀ dx v H', Kp (S.bad i) H H' → H' dx = some (.xd [(f, v)]) → Rep B H' v t → S.ok i g H' → E (.ref C) (some dx) H'

/-- what is wanted behind a result -/
def Post (S : GS) (cls : Cls) (i : S.I) (B : Addr → Prop) (H : Hp) {α β : Type} (R : Hp → β → α → Prop) (Q : β → Hp → Prop) (E : XK) : Res S α → Prop
  | .ok d g => ∀ v H', Kp (S.bad i) H H' → R H' v d → S.ok i g H' → Q v H'
  | .ex c t g => PostX S cls i B H E c t g
  | .no => False
section
variable {S : GS} {cls : Cls} {i : S.I} {B : Addr → Prop} {H H1 : Hp} {E : XK}
theorem Post.split {α β γ δ : Type} {R : Hp → β → α → Prop} {R' : Hp → δ → γ → Prop} {Q : β → Hp → Prop} {Q1 : δ → Hp → Prop} {r : Res S γ} {f : γ → S.G → Res S α} (h : Post S cls i B H R Q E (r.bind f))
    (k : ∀ d g v H1, r = .ok d g → Kp (S.bad i) H H1 → R' H1 v d → S.ok i g H1 → Post S cls i B H R Q E (f d g) → Q1 v H1) : Post S cls i B H R' Q1 E r := by
  cases r with
  | ok d g => exact fun v H1 k1 r1 o1 => k d g v H1 rfl k1 r1 o1 h
  | ex c t g => exact h
  | no => exact h
theorem PostX.later {c : Str} {t : D} {g : S.G} (h : PostX S cls i B H E c t g) (k : Kp (S.bad i) H H1) : PostX S cls i B H1 E c t g := by
  unfold PostX at *
  split at h
  · exact h
  · exact fun dx v H' k1 => h dx v H' (k.trans k1)
theorem Post.later {α β : Type} {R : Hp → β → α → Prop} {Q : β → Hp → Prop} {r : Res S α} (h : Post S cls i B H R Q E r) (k : Kp (S.bad i) H H1) : Post S cls i B H1 R Q E r := by
  cases r with
  | ok d g => exact fun v H' k1 => h v H' (k.trans k1)
  | ex c t g => exact PostX.later h k
  | no => exact h
theorem Post.imp {α β : Type} {R : Hp → β → α → Prop} {Q Q' : β → Hp → Prop} {r : Res S α} (h : Post S cls i B H R Q E r) (k : ∀ d g, r = .ok d g → ∀ v H', Kp (S.bad i) H H' → R H' v d → S.ok i g H' → Q v H' → Q' v H') : Post S cls i B H R Q' E r := by
  cases r with
  | ok d g => exact fun v H' k1 r1 o1 => k d g rfl v H' k1 r1 o1 (h v H' k1 r1 o1)
  | ex c t g => exact h
  | no => exact h
end
def tE (S : GS) (T : Tab S) (cls : Cls) (E : XK) (m : Slim.E) : TE := fun σ H Q => ∃ i B τ g, ER S i B τ g σ H ∧ Post S cls i B H (Rep B) Q E (ev S T m τ g)
def tT (S : GS) (T : Tab S) (cls : Cls) (E : XK) (m : Slim.E) : TT := fun σ H Q => ∃ i B τ g, ER S i B τ g σ H ∧ Post S cls i B H (fun _ (v : Bool) (d : Bool) => v = d) Q E ((ev S T m τ g).bind fun x g => .of (tru x) g)
def tA (S : GS) (T : Tab S) (cls : Cls) (E : XK) (m : Slim.E) : TA := fun σ H Q => ∃ i B τ g, ER S i B τ g σ H ∧ Post S cls i B H (RepAll B) Q E (evs S T m τ g)
def tO (S : GS) (T : Tab S) (cls : Cls) (E : XK) (m : Slim.E) : TO := fun σ H Q => ∃ i B τ g, ER S i B τ g σ H ∧ Post S cls i B H (fun _ (v : Option Int) (d : Option Int) => v = d) Q E (evo S T m τ g)
def tBE (S : GS) (T : Tab S) (cls : Cls) (E : XK) (k : Bool) (m : Slim.E) : TE := fun σ H Q => ∃ i B τ g, ER S i B τ g σ H ∧ Post S cls i B H (Rep B) Q E (evb S T k m τ g)
def tBT (S : GS) (T : Tab S) (cls : Cls) (E : XK) (k : Bool) (m : Slim.E) : TT := fun σ H Q => ∃ i B τ g, ER S i B τ g σ H ∧ Post S cls i B H (fun _ (v : Bool) (d : Bool) => v = d) Q E ((evb S T k m τ g).bind fun x g => .of (tru x) g)


/-- a def's contract by its spec -/
def spOf (S : GS) (cls : Cls) (F : FSpec S) : Sp := fun vs H Q E => ∃ i B vs' ds g, vs = (if F.dk = true then S.val i :: vs' else vs') ∧ vs'.length = F.n ∧ S.ok i g H ∧ (∀ a, S.bad i a → B a) ∧ Dom B H ∧ RepAll B H vs' ds ∧ (∀ x a d, S.cs x = some (a, d) → Rep B H (.ref a) d) ∧
  Post S cls i B H (Rep B) Q E (F.f ds g)
def psLen {S : GS} (F : FSpec S) : Nat := if F.dk = true then F.n + 1 else F.n
theorem spOf_len {S : GS} {cls : Cls} {F : FSpec S} {vs : List V} {H : Hp} {Q : VK} {E : XK} (h : spOf S cls F vs H Q E) : vs.length = psLen F := by
  obtain ⟨i, B, vs', ds, g, rfl, hn, _⟩ := h
  unfold psLen
  split <;> simp [hn]


/-- how keywords in the order ks bind: the place of each parameter among them -/
def KwB (K : PySem.W.Frag) (fd : FuncData) (ps ks : List Str) (perm : List Nat) : Prop :=
  ∀ (s : Shared) (ws : List Value), K.In s.heap → ws.length = ks.length → BindsTo s fd ⟨[], ks.zip ws⟩ (ps.zip (perm.map fun i => ws.getD i .none))

def bltNames : List Str := ["len", "sum", "abs", "int", "repr", "all", "any", "max", "min", "sorted", "tuple", "list", "isinstance", "bool", "str", "range", "enumerate", "zip"]

/-- what a def's text may lean on -/
structure Good (S : GS) (CX : CXT) (cls : Cls) (T : Tab S) (kws : Str → List (List Str × List Nat)) (gc : Bool) (k : Nat) (E : XK) (N : List Str) (sc : Scope) (asg : Str → Bool) (X : Cx) : Prop where
  hN : X.N = N
  nd : N.Nodup
  scp : X.env.scope = sc
  kf : sc.kind = .function
  calm : X.calm = true
  ck : X.K = S.K
  gd : X.A.guards = some []
  room : Room k X.A
  tab : ∀ f F, T f = some F → ∃ a fd ps, X.mg f = some (.ref a) ∧ PySem.W.keepIn X.K (.ref a) = true ∧ ps.length = psLen F ∧ FnG X.prog X.w X.K X.mg X.base CX k a fd ps (spOf S cls F) ∧ Binds X.K fd ps [] ∧
    ∀ ks perm, (ks, perm) ∈ kws f → ks.length = F.n ∧ perm.length = F.n ∧ KwB X.K fd ps ks perm
  blt : ∀ x, x ∈ bltNames → X.mg x = none
  gcd : gc = true → X.mg "gcd" = some (.builtin "math.gcd")
  cst : ∀ x a d, S.cs x = some (a, d) → X.mg x = some (.ref a)
  pass : Passes CX X E
  quiet : ∀ Y : Cx, Y.prog = X.prog → Y.w = X.w → Passes CX Y E0
  asg : ∀ x, asg x = true → Loc X.env.scope x ∧ (X.fn x = true ∨ X.env.scope.names.lookup x = some .local)

/-! ### the look at a text -/
def visB (sc : Scope) (x : Str) : Bool := (match sc.names.lookup x with
  | some .local => true
  | some .cell => true
  | some .free => true
  | _ => false) && !(x == ("__debug__" : Str)) && !(x == ("__classdict__" : Str))
def glB (sc : Scope) (x : Str) : Bool := decide (sc.names.lookup x = some .globalImplicit) && !(x == ("__debug__" : Str)) && !decide (x = ("__name__" : Str))
def varB (N : List Str) (sc : Scope) (i : Nat) (x : Str) : Bool := decide (N[i]? = some x) && visB sc x

/-- deck[key] -/
def gB (N : List Str) (sc : Scope) (j : Nat) (key : Str) : Expr → Bool
  | .Subscript (.Name x _) (.Constant (.str y) _ _) _ => decide (y = key) && varB N sc j x
  | _ => false
def litB : D → Const → Bool
  | .none, .none => true
  | .bool b, .bool c => b == c
  | .int i, .int j => i == j
  | .str x, .str y => decide (x = y)
  | _, _ => false
def opB : Bop → Operator → Bool
  | .add, .Add => true
  | .sub, .Sub => true
  | .mul, .Mult => true
  | .fdiv, .FloorDiv => true
  | .mod, .Mod => true
  | .pow, .Pow => true
  | _, _ => false
def copB : Cop → CmpOp → Bool
  | .lt, .Lt => true
  | .le, .LtE => true
  | .gt, .Gt => true
  | .ge, .GtE => true
  | .eq, .Eq => true
  | .ne, .NotEq => true
  | .is, .Is => true
  | .isnt, .IsNot => true
  | .isin, .In => true
  | .notin, .NotIn => true
  | _, _ => false
def noStar : Expr → Bool
  | .Starred _ _ => false
  | _ => true
def noSlice : Expr → Bool
  | .Slice _ _ _ _ => false
  | _ => true
def glName (sc : Scope) (x : Str) : Expr → Bool
  | .Name y _ => decide (y = x) && glB sc x
  | _ => false
def minus1 : Expr → Bool
  | .UnaryOp .USub (.Constant (.int i) _ _) _ => i == 1
  | _ => false
def oneB (sc : Scope) (n : Str) (f : Expr) (es : List Expr) (kw : List Keyword) : Option (List Expr) := match es, kw with
  | [e], [] => if (glName sc n f && noStar e) = true then some [e] else none
  | _, _ => none
def twoB (sc : Scope) (n : Str) (f : Expr) (es : List Expr) (kw : List Keyword) : Option (List Expr) := match es, kw with
  | [e, e2], [] => if (glName sc n f && noStar e && noStar e2) = true then some [e, e2] else none
  | _, _ => none
def dflB (sc : Scope) (n : Str) (d : D) (f : Expr) (es : List Expr) (kw : List Keyword) : Option (List Expr) := match es, kw with
  | [e], [⟨some m, .Constant c _ _, _⟩] => if (glName sc n f && noStar e && decide (m = "default") && litB d c) = true then some [e] else none
  | _, _ => none
def tyN : Ty → Str
  | .int => "int"
  | .bool => "bool"
  | .tuple => "tuple"
  | .str => "str"

/-- the arguments of a built-in function, by its name -/
def bltB (sc : Scope) (gc : Bool) (b : Bl) (f : Expr) (es : List Expr) (kw : List Keyword) : Option (List Expr) := match b with
  | .len => oneB sc "len" f es kw
  | .sum => oneB sc "sum" f es kw
  | .abs => oneB sc "abs" f es kw
  | .int => oneB sc "int" f es kw
  | .repr => oneB sc "repr" f es kw
  | .all => oneB sc "all" f es kw
  | .any => oneB sc "any" f es kw
  | .max2 => twoB sc "max" f es kw
  | .min2 => twoB sc "min" f es kw
  | .max1 => oneB sc "max" f es kw
  | .min1 => oneB sc "min" f es kw
  | .maxd d => dflB sc "max" d f es kw
  | .mind d => dflB sc "min" d f es kw
  | .sorted => oneB sc "sorted" f es kw
  | .tuple => oneB sc "tuple" f es kw
  | .list => oneB sc "list" f es kw
  | .gcd => if gc = true then twoB sc "gcd" f es kw else none
def ownOf (N : List Str) (own : List Nat) : List (Str × Nat) := own.map fun i => (N.getD i Str.empty, i)
mutual
def chkT (N : List Str) (asg : Str → Bool) : Tg → Expr → Bool
  | .nm i, .Name x _ => decide (N[i]? = some x) && asg x
  | .tp ts, .Tuple es _ _ => chkTs N asg ts es
  | _, _ => false
def chkTs (N : List Str) (asg : Str → Bool) : Tg → List Expr → Bool
  | .nil, [] => true
  | .cons t ts, e :: es => noStar e && chkT N asg t e && chkTs N asg ts es
  | _, _ => false
end

/-- the slots of a target -/
def tgS : Tg → List Nat
  | .nm i => [i]
  | .tp ts => tgS ts
  | .nil => []
  | .cons t ts => tgS t ++ tgS ts

/-- the names that a comprehension's block may store -/
def blkAsg (scope : Scope) (x : Str) : Bool := match scope.names.lookup x with
  | some .local => true
  | some .cell => true
  | _ => false
section
variable (N : List Str) (gc : Bool) (kws : Str → List (List Str × List Nat))
mutual
def chk : Slim.E → Scope → Expr → Bool
  | .var i, sc, e => (match e with
    | .Name x _ => varB N sc i x
    | _ => false)
  | .glob x, sc, e => (match e with
    | .Name y _ => decide (y = x) && glB sc y
    | _ => false)
  | .lit d, _, e => (match e with
    | .Constant c _ _ => litB d c
    | _ => false)
  | .bin op a b, sc, e => (match e with
    | .BinOp x o y _ => opB op o && chk a sc x && chk b sc y
    | _ => false)
  | .neg a, sc, e => (match e with
    | .UnaryOp .USub x _ => chk a sc x
    | _ => false)
  | .cmp op a b, sc, e => (match e with
    | .Compare x [o] [y] _ => copB op o && chk a sc x && chk b sc y && !behindInMarks o y
    | _ => false)
  | .chn o1 o2 a b c, sc, e => (match e with
    | .Compare x [p, q] [y, z] _ => copB o1 p && copB o2 q && chk a sc x && chk b sc y && chk c sc z && !lastMarks [p, q] [y, z]
    | _ => false)
  | .and as, sc, e => (match e with
    | .BoolOp .And es _ => chkA as sc es && !es.isEmpty
    | _ => false)
  | .or as, sc, e => (match e with
    | .BoolOp .Or es _ => chkA as sc es && !es.isEmpty
    | _ => false)
  | .not a, sc, e => (match e with
    | .UnaryOp .Not x _ => chk a sc x
    | _ => false)
  | .ite c a b, sc, e => (match e with
    | .IfExp x y z _ => chk c sc x && chk a sc y && chk b sc z
    | _ => false)
  | .tup as, sc, e => (match e with
    | .Tuple es _ _ => chkA as sc es
    | _ => false)
  | .lst as, sc, e => (match e with
    | .List es _ => chkA as sc es
    | _ => false)
  | .idx a b, sc, e => (match e with
    | .Subscript x y _ => chk a sc x && chk b sc y && noSlice y
    | _ => false)
  | .slc a lo hi, sc, e => (match e with
    | .Subscript x (.Slice l h none _) _ => chk a sc x && chkO lo sc l && chkO hi sc h
    | _ => false)
  | .rev a, sc, e => (match e with
    | .Subscript x (.Slice none none (some t) _) _ => chk a sc x && minus1 t
    | _ => false)
  | .call f dk as, sc, e => (match e with
    | .Call (.Name x _) es [] _ => decide (x = f) && glB sc x && (match dk, es with
      | none, es => chkA as sc es
      | some j, .Name y _ :: es => varB N sc j y && chkA as sc es
      | some _, _ => false)
    | _ => false)
  | .callk f ks perm as, sc, e => (match e with
    | .Call (.Name x _) [] kw _ => decide (x = f) && glB sc x && decide (kw.map (·.arg) = ks.map some) && decide ((ks, perm) ∈ kws f) && chkA as sc (kw.map (·.value)) && perm.all (fun i => decide (i < ks.length))
    | _ => false)
  | .blt f as, sc, e => (match e with
    | .Call x es kw _ => (match bltB sc gc f x es kw with
      | some es' => chkA as sc es'
      | none => false)
    | _ => false)
  | .isa t a, sc, e => (match e with
    | .Call f [x, y] [] _ => glName sc "isinstance" f && noStar x && chk a sc x && glName sc (tyN t) y
    | _ => false)
  | .comp own tg it c el, sc, e => (match e with
    | .ListComp e [⟨t, iter, ifs, 0⟩] scope _ => blkC N sc scope (ownOf N own) && (tgS tg).all (fun i => own.contains i) && chkT N (blkAsg scope) tg t && chkI it sc t iter && chk el (relS scope sc) e && (match ifs with
      | [] => (match c with
        | .lit (.bool true) => true
        | _ => false)
      | [x] => chk c (relS scope sc) x
      | _ => false)
    | _ => false)
  | .scut j n, sc, e => (match e with
    | .Subscript (.Name x _) (.Slice none (some (.Constant (.int m) _ _)) none _) _ => decide (m = (n : Int)) && varB N sc j x
    | _ => false)
  | .gget j key, sc, e => gB N sc j key e
  | .gne j key, sc, e => (match e with
    | .Compare x [.NotEq] [.List [] _] _ => gB N sc j key x
    | _ => false)
  | .gpop j key, sc, e => (match e with
    | .Call (.Attribute x a apos) [] [] cpos => decide (a = "pop") && gB N sc j key x && (apos.endLine == cpos.line)
    | _ => false)
  | .gapp j key a, sc, e => (match e with
    | .Call (.Attribute x m apos) [v] [] cpos => decide (m = "append") && gB N sc j key x && noStar v && chk a sc v && (apos.endLine == cpos.line)
    | _ => false)
  | .nil, _, _ => false
  | .cons _ _, _, _ => false
  | .rng1 _, _, _ => false
  | .rng2 _ _, _, _ => false
  | .enm _, _, _ => false
  | .zp _ _, _, _ => false
def chkA : Slim.E → Scope → List Expr → Bool
  | .nil, _, [] => true
  | .cons a as, sc, e :: es => noStar e && chk a sc e && chkA as sc es
  | _, _, _ => false
def chkO : Slim.E → Scope → Option Expr → Bool
  | .nil, _, e => e.isNone
  | .cons a _, sc, e => (match e with
    | some e => chk a sc e
    | none => false)
  | _, _, _ => false
def chkI : Slim.E → Scope → Expr → Expr → Bool
  | .rng1 a, sc, _, e => (match e with
    | .Call x [e] [] _ => glName sc "range" x && noStar e && chk a sc e
    | _ => false)
  | .rng2 a b, sc, _, e => (match e with
    | .Call x [e, e2] [] _ => glName sc "range" x && noStar e && noStar e2 && chk a sc e && chk b sc e2
    | _ => false)
  | .enm a, sc, tg, e => (match e, tg with
    | .Call x [e1] [] _, .Tuple _ _ _ => glName sc "enumerate" x && noStar e1 && chkA a sc [e1]
    | .Call x [e1, e2] [] _, .Tuple _ _ _ => glName sc "enumerate" x && noStar e1 && noStar e2 && chkA a sc [e1, e2]
    | _, _ => false)
  | .zp a b, sc, tg, e => (match e, tg with
    | .Call x [e1, e2] [] _, .Tuple _ _ _ => glName sc "zip" x && noStar e1 && noStar e2 && chk a sc e1 && chk b sc e2
    | _, _ => false)
  | .cons a _, sc, _, e => chk a sc e && (match e with
    | .Set _ _ _ => false
    | _ => true)
  | _, _, _, _ => false
end
end
end Slim

set_option Elab.async false
set_option linter.all false
set_option maxRecDepth 100000
set_option maxHeartbeats 4000000
/-! SLIM 8: expressions do what they evaluate to. -/
namespace Slim
open PySem PySem.Spec PyProof.Rows L2
theorem PE.by {X : Cx} {e : Expr} {t t' : TE} (h : PE X e t) (i : ∀ σ H Q, t' σ H Q → t σ H Q) : PE X e t' := ⟨fun pins s σ H Q I z => h.run pins s σ H Q I (i σ H Q z)⟩
theorem PT.by {X : Cx} {e : Expr} {t t' : TT} (h : PT X e t) (i : ∀ σ H Q, t' σ H Q → t σ H Q) : PT X e t' := ⟨fun pins s σ H Q I z => h.run pins s σ H Q I (i σ H Q z)⟩
theorem PW.by {X : Cx} {e : Expr} {t t' : TT} (h : PW X e t) (i : ∀ σ H Q, t' σ H Q → t σ H Q) : PW X e t' := ⟨fun wh pins s σ H Q I z => h.run wh pins s σ H Q I (i σ H Q z)⟩
theorem PA.by {X : Cx} {e : List Expr} {t t' : TA} (h : PA X e t) (i : ∀ σ H Q, t' σ H Q → t σ H Q) : PA X e t' := ⟨fun pos pins s σ H Q I z => h.run pos pins s σ H Q I (i σ H Q z)⟩
theorem PO.by {X : Cx} {e : Option Expr} {t t' : TO} (h : PO X e t) (i : ∀ σ H Q, t' σ H Q → t σ H Q) : PO X e t' := ⟨fun pins s σ H Q I z => h.run pins s σ H Q I (i σ H Q z)⟩
theorem PI.by {X : Cx} {tg e : Expr} {t t' : TI} (h : PI X tg e t) (i : ∀ σ H Q, t' σ H Q → t σ H Q) : PI X tg e t' := ⟨fun pins s σ H Q I z => h.run pins s σ H Q I (i σ H Q z)⟩
theorem PE.no {X : Cx} {e : Expr} : PE X e (fun _ _ _ => False) := ⟨fun _ _ _ _ _ _ z => z.elim⟩
theorem bind_assoc {S : GS} {α β γ : Type} (r : Res S α) (f : α → S.G → Res S β) (h : β → S.G → Res S γ) : (r.bind f).bind h = r.bind fun a g => (f a g).bind h := by
  cases r <;> rfl
theorem bind_of {S : GS} {α β : Type} (o : Option α) (g : S.G) (f : α → S.G → Res S β) : (Res.of o g : Res S α).bind f = match o with
    | some a => f a g
    | none => .no := by
  cases o <;> rfl
theorem Post.of {S : GS} {cls : Cls} {i : S.I} {B : Addr → Prop} {H : Hp} {E : XK} {α β : Type} {R : Hp → β → α → Prop} {Q : β → Hp → Prop} {o : Option α} {g : S.G} (h : Post S cls i B H R Q E (.of o g)) :
    ∃ a, o = some a ∧ ∀ v H', Kp (S.bad i) H H' → R H' v a → S.ok i g H' → Q v H' := by
  cases o with
  | none => exact h.elim
  | some a => exact ⟨a, rfl, h⟩

section
variable {S : GS} {CX : CXT} {cls : Cls} {T : Tab S} {kws : Str → List (List Str × List Nat)} {gc : Bool} {k : Nat} {E : XK} {N : List Str} {sc : Scope} {asg : Str → Bool} {X : Cx}
theorem Good.hu (G : Good S CX cls T kws gc k E N sc asg X) : X.A.units + 64 < cLine := G.room.units
theorem opR {op : Bop} {o : Operator} (h : opB op o = true) : OpR X (binaryOp o) (rOp (bop op)) := by
  cases op <;> cases o <;> simp only [opB, reduceCtorEq] at h
  · exact r_add
  · exact r_sub
  · exact r_mul
  · exact r_fdiv
  · exact r_mod
  · exact r_pow
theorem copR (hu : X.A.units + 64 < cLine) {op : Cop} {o : CmpOp} (h : copB op o = true) : OpR X (compareOp o) (rCo (cop op)) := by
  cases op <;> cases o <;> simp only [copB, reduceCtorEq] at h
  · exact r_ints op_lt
  · exact r_ints op_le
  · exact r_ints op_gt
  · exact r_ints op_ge
  · exact r_eq hu
  · exact r_ne hu
  · exact r_is
  · exact r_isnt
  · exact r_in hu
  · exact r_notin hu
theorem varB_of {i : Nat} {x : Str} (h : varB N sc i x = true) : N[i]? = some x ∧ Vis sc x ∧ (x == ("__debug__" : Str)) = false ∧ (x == ("__classdict__" : Str)) = false := by
  unfold varB visB at h
  simp only [Bool.and_eq_true, decide_eq_true_eq, Bool.not_eq_true'] at h
  obtain ⟨h1, ⟨h2, h3⟩, h4⟩ := h
  refine ⟨h1, ?_, h3, h4⟩
  split at h2
  · exact .inl (by assumption)
  · exact .inr (.inl (by assumption))
  · exact .inr (.inr (by assumption))
  · cases h2
theorem Good.var (G : Good S CX cls T kws gc k E N sc asg X) {i : Nat} {x : Str} {pos : Pos} (h : varB N sc i x = true) : PE X (.Name x pos) (tVar i) := by
  obtain ⟨h1, h2, h3, h4⟩ := varB_of h
  exact pe_var (by rw [G.hN]; exact h1) (by rw [G.scp]; exact h2) h3 h4
theorem lit_ok {d : D} {c : Const} {j : Nat} {pos : Pos} (h : litB d c = true) : PE X (.Constant c j pos) (fun σ H Q => ∀ v, Rep All H v d → Q v H) := by
  cases d <;> cases c <;> simp only [litB, reduceCtorEq, beq_iff_eq, decide_eq_true_eq] at h
  · exact PE.by pe_non fun σ H Q q => q _ .non
  · subst h; exact PE.by pe_bl fun σ H Q q => q _ (.bl _)
  · subst h; exact PE.by pe_int fun σ H Q q => q _ (.int _)
  · subst h; exact PE.by pe_str fun σ H Q q => q _ (.str _)
theorem lit_rep {d : D} {c : Const} {H : Hp} {v : V} {B : Addr → Prop} (h : litB d c = true) (r : Rep All H v d) : Rep B H v d := by
  cases d <;> cases c <;> simp only [litB, reduceCtorEq] at h <;> cases r
  · exact .non
  · exact .bl _
  · exact .int _
  · exact .str _
theorem star_cons {e : Expr} {es : List Expr} {env : Env} (h : noStar e = true) : starEach (e :: es) env = (false, eval e env) :: starEach es env := by
  cases e <;> first | (simp only [noStar, reduceCtorEq] at h; done) | rfl
theorem noSlice_ix {e : Expr} (h : noSlice e = true) : PlainIx e := by
  cases e <;> first | (simp only [noSlice, reduceCtorEq] at h; done) | exact fun _ _ => rfl
theorem any_back (pos : Pos) (l : List (Bool × Sem Value)) : (backTo pos l).any (·.1) = l.any (·.1) := by
  unfold backTo
  rw [List.any_map]
  rfl
/-! ### one expression's promise -/

/-- what is gone over: while the data that it holds stay as they are, at each turn the next of the items -/
def Wk (B : Addr → Prop) (H1 : Hp) (J : It) (items : List D) : Prop := ∃ gs : V → D → Prop, (∀ v d, gs v d → Rep B H1 v d) ∧ ∀ (B' : Addr → Prop) H', Dom B' H' → (∀ v d, gs v d → Rep B' H' v d) →
  J.stop items.length H' ∧ ∀ n, n < items.length → J.go n H' ∧ ∀ x H'', J.yld n H' x H'' → ∃ d, items[n]? = some d ∧ Kp All H' H'' ∧ Rep B' H'' x d

/-- a range holds no data -/
def wkB : Slim.E → (Addr → Prop) → Addr → Prop
  | .rng1 _, _ => fun _ => True
  | .rng2 _ _, _ => fun _ => True
  | _, B => B
theorem wkB_le {B : Addr → Prop} (m : Slim.E) (a : Addr) (h : B a) : wkB m B a := by
  cases m <;> first | exact h | trivial
def tI (S : GS) (T : Tab S) (cls : Cls) (E : XK) (m : Slim.E) : TI := fun σ H R => ∃ i B τ g, ER S i B τ g σ H ∧ Post S cls i B H (Wk (wkB m B)) R E (evi S T m τ g)

/-- as tE: a list that comes is a new one -/
def tF (S : GS) (T : Tab S) (cls : Cls) (E : XK) (m : Slim.E) : TE := fun σ H Q => ∃ i B τ g, ER S i B τ g σ H ∧ Post S cls i B H (fun H' v d => Rep B H' v d ∧ FreshAt H v d) Q E (ev S T m τ g)
theorem Post.weakR {S : GS} {cls : Cls} {i : S.I} {B : Addr → Prop} {H : Hp} {E : XK} {α β : Type} {R R' : Hp → β → α → Prop} {Q : β → Hp → Prop} {r : Res S α} (h : Post S cls i B H R Q E r) (w : ∀ H' v d, R' H' v d → R H' v d) : Post S cls i B H R' Q E r := by
  cases r with
  | ok d g => exact fun v H' k1 r1 o1 => h v H' k1 (w _ _ _ r1) o1
  | ex c t g => exact h
  | no => exact h
theorem PE.ofF {S : GS} {T : Tab S} {cls : Cls} {E : XK} {m : Slim.E} {X : Cx} {e : Expr} (h : PE X e (tF S T cls E m)) : PE X e (tE S T cls E m) := PE.by h fun σ H Q z => by
  obtain ⟨j, B, τ, g, er, p⟩ := z
  exact ⟨j, B, τ, g, er, p.weakR fun _ _ _ r => r.1⟩
def opOf (k : Bool) : BoolOp := if k = true then .And else .Or
structure Snd (S : GS) (CX : CXT) (cls : Cls) (T : Tab S) (kws : Str → List (List Str × List Nat)) (gc : Bool) (k : Nat) (N : List Str) (m : Slim.E) : Prop where
  pe : ∀ {E sc asg X}, Good S CX cls T kws gc k E N sc asg X → ∀ e, chk N gc kws m sc e = true → PE X e (tE S T cls E m)
  pt : ∀ {E sc asg X}, Good S CX cls T kws gc k E N sc asg X → ∀ e, chk N gc kws m sc e = true → PT X e (tT S T cls E m)
  pa : ∀ {E sc asg X}, Good S CX cls T kws gc k E N sc asg X → ∀ es, chkA N gc kws m sc es = true → PA X es (tA S T cls E m)
  pb : ∀ {E sc asg X}, Good S CX cls T kws gc k E N sc asg X → ∀ b es pos, es ≠ [] → chkA N gc kws m sc es = true → PE X (.BoolOp (opOf b) es pos) (tBE S T cls E b m)
  pw : ∀ {E sc asg X}, Good S CX cls T kws gc k E N sc asg X → ∀ b es pos, es ≠ [] → chkA N gc kws m sc es = true → PW X (.BoolOp (opOf b) es pos) (tBT S T cls E b m)
  pk : ∀ {E sc asg X}, Good S CX cls T kws gc k E N sc asg X → ∀ kw : List Keyword, chkA N gc kws m sc (kw.map (·.value)) = true → PK X kw (tA S T cls E m)
  po : ∀ {E sc asg X}, Good S CX cls T kws gc k E N sc asg X → ∀ e, chkO N gc kws m sc e = true → PO X e (tO S T cls E m)
  pi : ∀ {E sc asg X}, Good S CX cls T kws gc k E N sc asg X → ∀ tg e, chkI N gc kws m sc tg e = true → PI X tg e (tI S T cls E m)

/-- an expression that is no list of arguments, no source of a loop -/
theorem Snd.expr {m : Slim.E} (ha : ∀ sc es, chkA N gc kws m sc es = false) (ho : ∀ sc e, chkO N gc kws m sc e = false) (hi : ∀ sc tg e, chkI N gc kws m sc tg e = false)
    (pe : ∀ {E sc asg X}, Good S CX cls T kws gc k E N sc asg X → ∀ e, chk N gc kws m sc e = true → PE X e (tE S T cls E m))
    (pt : ∀ {E sc asg X}, Good S CX cls T kws gc k E N sc asg X → ∀ e, chk N gc kws m sc e = true → PT X e (tT S T cls E m)) : Snd S CX cls T kws gc k N m where
  pe := pe
  pt := pt
  pa := fun {_ sc _ _} _ es h => by rw [ha sc es] at h; cases h
  pb := fun {_ sc _ _} _ _ es _ _ h => by rw [ha sc es] at h; cases h
  pw := fun {_ sc _ _} _ _ es _ _ h => by rw [ha sc es] at h; cases h
  pk := fun {_ sc _ _} _ kw h => by rw [ha sc _] at h; cases h
  po := fun {_ sc _ _} _ e h => by rw [ho sc e] at h; cases h
  pi := fun {_ sc _ _} _ tg e h => by rw [hi sc tg e] at h; cases h

/-- a test by its value -/
theorem tT_truth {m : Slim.E} (h : PE X e (tE S T cls E m)) (he : ∀ whole, isTrue e X.env whole = (do let v ← whole; standAt e.pos; holding [v] (truthy v))) : PT X e (tT S T cls E m) := by
  refine PT.by (pt_truth h he) fun σ H Q z => ?_
  obtain ⟨i, B, τ, g, er, p⟩ := z
  refine ⟨i, B, τ, g, er, p.split fun d g1 v H1 _ k1 r1 o1 p1 => ?_⟩
  obtain ⟨b, e1, q⟩ := p1.of
  exact ⟨b, tru_of r1 e1, q b H1 k1 rfl o1⟩

theorem snd_var (i : Nat) : Snd S CX cls T kws gc k N (.var i) := by
  have pe : ∀ {E sc asg X}, Good S CX cls T kws gc k E N sc asg X → ∀ e, chk N gc kws (.var i) sc e = true → PE X e (tE S T cls E (.var i)) := fun {E sc asg X} G e h => by
    simp only [chk] at h
    split at h
    · refine PE.by (G.var h) fun σ H Q z => ?_
      obtain ⟨j, B, τ, g, er, p⟩ := z
      simp only [ev] at p
      obtain ⟨d, e1, q⟩ := p.of
      obtain ⟨v, h1, h2⟩ := er.sl i d e1
      exact ⟨v, h1, q v H Kp.refl h2 er.ok⟩
    · cases h
  refine Snd.expr (fun _ _ => rfl) (fun _ _ => rfl) (fun _ _ _ => rfl) pe fun {E sc asg X} G e h => ?_
  have h' := h
  simp only [chk] at h
  split at h
  · exact tT_truth (pe G _ h') fun _ => rfl
  · cases h
theorem snd_lit (d : D) : Snd S CX cls T kws gc k N (.lit d) := by
  have pe : ∀ {E sc asg X}, Good S CX cls T kws gc k E N sc asg X → ∀ e, chk N gc kws (.lit d) sc e = true → PE X e (tE S T cls E (.lit d)) := fun {E sc asg X} G e h => by
    simp only [chk] at h
    split at h
    · refine PE.by (lit_ok h) fun σ H Q z => ?_
      obtain ⟨j, B, τ, g, er, p⟩ := z
      simp only [ev] at p
      exact fun v r => p v H Kp.refl (lit_rep h r) er.ok
    · cases h
  refine Snd.expr (fun _ _ => rfl) (fun _ _ => rfl) (fun _ _ _ => rfl) pe fun {E sc asg X} G e h => ?_
  have h' := h
  simp only [chk] at h
  split at h
  · exact tT_truth (pe G _ h') fun _ => rfl
  · cases h
theorem snd_bin (op : Bop) {a b : Slim.E} (ia : Snd S CX cls T kws gc k N a) (ib : Snd S CX cls T kws gc k N b) : Snd S CX cls T kws gc k N (.bin op a b) := by
  have pe : ∀ {E sc asg X}, Good S CX cls T kws gc k E N sc asg X → ∀ e, chk N gc kws (.bin op a b) sc e = true → PE X e (tE S T cls E (.bin op a b)) := fun {E sc asg X} G e h => by
    simp only [chk] at h
    split at h
    · simp only [Bool.and_eq_true] at h
      refine PE.by (pe_op (opR h.1.1) (ia.pe G _ h.1.2) (ib.pe G _ h.2)) fun σ H Q z => ?_
      obtain ⟨j, B, τ, g, er, p⟩ := z
      simp only [ev] at p
      refine ⟨j, B, τ, g, er, p.split fun d1 g1 v H1 _ k1 r1 o1 p1 => ?_⟩
      have er1 := er.step k1 o1
      refine ⟨j, B, τ, g1, er1, (p1.later k1).split fun d2 g2 w H2 _ k2 r2 o2 p2 => ?_⟩
      obtain ⟨d, e1, q⟩ := p2.of
      exact ⟨B, d1, d2, d, er1.dom' k2 o2, r1.keep (er1.kp k2), r2, e1, fun u H3 k3 r3 => q u H3 (k2.trans k3.any) r3 (GS.same o2 k3)⟩
    · cases h
  refine Snd.expr (fun _ _ => rfl) (fun _ _ => rfl) (fun _ _ _ => rfl) pe fun {E sc asg X} G e h => ?_
  have h' := h
  simp only [chk] at h
  split at h
  · exact tT_truth (pe G _ h') fun _ => rfl
  · cases h
theorem snd_neg {a : Slim.E} (ia : Snd S CX cls T kws gc k N a) : Snd S CX cls T kws gc k N (.neg a) := by
  have pe : ∀ {E sc asg X}, Good S CX cls T kws gc k E N sc asg X → ∀ e, chk N gc kws (.neg a) sc e = true → PE X e (tE S T cls E (.neg a)) := fun {E sc asg X} G e h => by
    simp only [chk] at h
    split at h
    · refine PE.by (pe_un un_neg (ia.pe G _ h)) fun σ H Q z => ?_
      obtain ⟨j, B, τ, g, er, p⟩ := z
      simp only [ev] at p
      refine ⟨j, B, τ, g, er, p.split fun d1 g1 v H1 _ k1 r1 o1 p1 => ?_⟩
      cases d1 with
      | int n =>
        cases r1.intAt
        exact ⟨n, rfl, p1 _ H1 k1 (.int _) o1⟩
      | _ => exact p1.elim
    · cases h
  refine Snd.expr (fun _ _ => rfl) (fun _ _ => rfl) (fun _ _ _ => rfl) pe fun {E sc asg X} G e h => ?_
  have h' := h
  simp only [chk] at h
  split at h
  · exact tT_truth (pe G _ h') fun _ => rfl
  · cases h
end
end Slim

set_option Elab.async false
set_option linter.all false
set_option maxRecDepth 100000
set_option maxHeartbeats 4000000
/-! SLIM 9: expressions, further. -/
namespace Slim
open PySem PySem.Spec PyProof.Rows L2
section
variable {S : GS} {CX : CXT} {cls : Cls} {T : Tab S} {kws : Str → List (List Str × List Nat)} {gc : Bool} {k : Nat} {E : XK} {N : List Str} {sc : Scope} {asg : Str → Bool} {X : Cx}

/-- the parts of a comparison -/
theorem cmp_read {op : Cop} {a b : Slim.E} {E : XK} {σ : L2.St} {H : Hp} {Q : VK} (z : tE S T cls E (.cmp op a b) σ H Q) : tOp (rCo (cop op)) (tE S T cls E a) (tE S T cls E b) σ H Q := by
  obtain ⟨j, B, τ, g, er, p⟩ := z
  simp only [ev] at p
  refine ⟨j, B, τ, g, er, p.split fun d1 g1 v H1 _ k1 r1 o1 p1 => ?_⟩
  have er1 := er.step k1 o1
  refine ⟨j, B, τ, g1, er1, (p1.later k1).split fun d2 g2 w H2 _ k2 r2 o2 p2 => ?_⟩
  obtain ⟨d, e1, q⟩ := p2.of
  obtain ⟨c, e2, rfl⟩ := Option.map_eq_some_iff.mp e1
  exact ⟨B, d1, d2, c, r1.keep (er1.kp k2), r2, e2, q _ H2 k2 (.bl _) o2⟩

/-- a comparison's value is a bool: as a test -/
theorem tT_bool {m : Slim.E} {t : TE} {σ : L2.St} {H : Hp} {Q : Bool → Hp → Prop} (hb : ∀ τ g d g', ev S T m τ g = .ok d g' → ∃ b, d = .bool b)
    (h : ∀ Q, tE S T cls E m σ H Q → t σ H Q) (z : tT S T cls E m σ H Q) : tTest t σ H Q := by
  obtain ⟨j, B, τ, g, er, p⟩ := z
  refine h _ ⟨j, B, τ, g, er, p.split fun d g1 v H1 e1 k1 r1 o1 p1 => ?_⟩
  obtain ⟨b, rfl⟩ := hb τ g d g1 e1
  cases r1.blAt
  exact ⟨b, rfl, p1 b H1 k1 rfl o1⟩
theorem bind_ok {S : GS} {α β : Type} {r : Res S α} {f : α → S.G → Res S β} {b : β} {g' : S.G} (h : r.bind f = .ok b g') : ∃ a g, r = .ok a g ∧ f a g = .ok b g' := by
  cases r with
  | ok a g => exact ⟨a, g, rfl, h⟩
  | ex c t g => cases h
  | no => cases h
theorem of_ok {S : GS} {α : Type} {o : Option α} {a : α} {g g' : S.G} (h : (Res.of o g : Res S α) = .ok a g') : o = some a := by
  cases o with
  | none => cases h
  | some b => cases h; rfl
theorem snd_cmp (op : Cop) {a b : Slim.E} (ia : Snd S CX cls T kws gc k N a) (ib : Snd S CX cls T kws gc k N b) : Snd S CX cls T kws gc k N (.cmp op a b) := by
  refine Snd.expr (fun _ _ => rfl) (fun _ _ => rfl) (fun _ _ _ => rfl) (fun {E sc asg X} G e h => ?_) fun {E sc asg X} G e h => ?_
  · simp only [chk] at h
    split at h
    · simp only [Bool.and_eq_true, Bool.not_eq_true'] at h
      exact PE.by (pe_cmpR (copR G.hu h.1.1.1) (ia.pe G _ h.1.1.2) (ib.pe G _ h.1.2) h.2) fun σ H Q z => cmp_read z
    · cases h
  · simp only [chk] at h
    split at h
    · simp only [Bool.and_eq_true, Bool.not_eq_true'] at h
      refine PT.by (pt_cmpR (copR G.hu h.1.1.1) (ia.pe G _ h.1.1.2) (ib.pe G _ h.1.2) h.2) fun σ H Q z => tT_bool (fun τ g d g' e => ?_) (fun Q z => cmp_read z) z
      simp only [ev] at e
      obtain ⟨_, _, _, e⟩ := bind_ok e
      obtain ⟨_, _, _, e⟩ := bind_ok e
      obtain ⟨c, _, rfl⟩ := Option.map_eq_some_iff.mp (of_ok e)
      exact ⟨c, rfl⟩
    · cases h
theorem chn_read {o1 o2 : Cop} {a b c : Slim.E} {E : XK} {σ : L2.St} {H : Hp} {Q : VK} (z : tE S T cls E (.chn o1 o2 a b c) σ H Q) :
    tChain (rCo (cop o1)) (rCo (cop o2)) (tE S T cls E a) (tE S T cls E b) (tE S T cls E c) σ H Q := by
  obtain ⟨j, B, τ, g, er, p⟩ := z
  simp only [ev] at p
  refine ⟨j, B, τ, g, er, p.split fun d1 g1 v H1 _ k1 r1 o1 p1 => ?_⟩
  have er1 := er.step k1 o1
  refine ⟨j, B, τ, g1, er1, (p1.later k1).split fun d2 g2 w H2 _ k2 r2 o2 p2 => ?_⟩
  have er2 := er1.step k2 o2
  split at p2
  · rename_i e1
    refine ⟨B, d1, d2, true, r1.keep (er1.kp k2), r2, e1, true, rfl, ?_⟩
    rw [if_pos rfl]
    refine ⟨j, B, τ, g2, er2, (p2.later k2).split fun d3 g3 u H3 _ k3 r3 o3 p3 => ?_⟩
    obtain ⟨d, e2, q⟩ := p3.of
    obtain ⟨c, e3, rfl⟩ := Option.map_eq_some_iff.mp e2
    exact ⟨B, d2, d3, c, r2.keep (er2.kp k3), r3, e3, q _ H3 k3 (.bl _) o3⟩
  · rename_i e1
    refine ⟨B, d1, d2, false, r1.keep (er1.kp k2), r2, e1, false, rfl, ?_⟩
    rw [if_neg Bool.false_ne_true]
    exact p2 _ H2 k2 (.bl _) o2
  · exact p2.elim
theorem snd_chn (o1 o2 : Cop) {a b c : Slim.E} (ia : Snd S CX cls T kws gc k N a) (ib : Snd S CX cls T kws gc k N b) (ic : Snd S CX cls T kws gc k N c) : Snd S CX cls T kws gc k N (.chn o1 o2 a b c) := by
  refine Snd.expr (fun _ _ => rfl) (fun _ _ => rfl) (fun _ _ _ => rfl) (fun {E sc asg X} G e h => ?_) fun {E sc asg X} G e h => ?_
  · simp only [chk] at h
    split at h
    · simp only [Bool.and_eq_true, Bool.not_eq_true'] at h
      obtain ⟨⟨⟨⟨⟨h1, h2⟩, h3⟩, h4⟩, h5⟩, h6⟩ := h
      exact PE.by (pe_chain (copR G.hu h1) (copR G.hu h2) (ia.pe G _ h3) (ib.pe G _ h4) (ic.pe G _ h5) h6) fun σ H Q z => chn_read z
    · cases h
  · simp only [chk] at h
    split at h
    · simp only [Bool.and_eq_true, Bool.not_eq_true'] at h
      obtain ⟨⟨⟨⟨⟨h1, h2⟩, h3⟩, h4⟩, h5⟩, h6⟩ := h
      refine PT.by (pt_chain (copR G.hu h1) (copR G.hu h2) (ia.pe G _ h3) (ib.pe G _ h4) (ic.pe G _ h5) h6) fun σ H Q z => tT_bool (fun τ g d g' e => ?_) (fun Q z => chn_read z) z
      simp only [ev] at e
      obtain ⟨_, _, _, e⟩ := bind_ok e
      obtain ⟨_, _, _, e⟩ := bind_ok e
      split at e
      · obtain ⟨_, _, _, e⟩ := bind_ok e
        obtain ⟨c, _, rfl⟩ := Option.map_eq_some_iff.mp (of_ok e)
        exact ⟨c, rfl⟩
      · cases e; exact ⟨_, rfl⟩
      · cases e
    · cases h
theorem snd_not {a : Slim.E} (ia : Snd S CX cls T kws gc k N a) : Snd S CX cls T kws gc k N (.not a) := by
  refine Snd.expr (fun _ _ => rfl) (fun _ _ => rfl) (fun _ _ _ => rfl) (fun {E sc asg X} G e h => ?_) fun {E sc asg X} G e h => ?_
  · simp only [chk] at h
    split at h
    · refine PE.by (pe_notT (ia.pe G _ h)) fun σ H Q z => ?_
      obtain ⟨j, B, τ, g, er, p⟩ := z
      simp only [ev] at p
      refine ⟨j, B, τ, g, er, p.split fun d g1 v H1 _ k1 r1 o1 p1 => ?_⟩
      obtain ⟨d', e1, q⟩ := p1.of
      obtain ⟨b, e2, rfl⟩ := Option.map_eq_some_iff.mp e1
      exact ⟨b, tru_of r1 e2, q _ H1 k1 (.bl _) o1⟩
    · cases h
  · simp only [chk] at h
    split at h
    · refine PT.by (pt_not (ia.pt G _ h)) fun σ H Q z => ?_
      obtain ⟨j, B, τ, g, er, p⟩ := z
      simp only [ev, bind_assoc] at p
      refine ⟨j, B, τ, g, er, ?_⟩
      cases e : ev S T a τ g with
      | ok d g1 =>
        rw [e] at p
        show Post S cls j B H _ _ E (Res.of (tru d) g1)
        cases e1 : tru d with
        | none =>
          have p' : Post S cls j B H (fun _ (v : Bool) (d : Bool) => v = d) Q E ((Res.of ((tru d).map fun b => PyData.bool !b) g1).bind fun x g => .of (tru x) g) := p
          rw [e1] at p'
          exact p'.elim
        | some b =>
          have p' : Post S cls j B H (fun _ (v : Bool) (d : Bool) => v = d) Q E ((Res.of ((tru d).map fun b => PyData.bool !b) g1).bind fun x g => .of (tru x) g) := p
          rw [e1] at p'
          exact fun v H' k1 r o => by
            subst r
            exact p' (!v) H' k1 rfl o
      | ex c t g1 => rw [e] at p; exact p
      | no => rw [e] at p; exact p
    · cases h
theorem pt_ifE {c a b : Expr} {pos : Pos} {tc ta tb : TT} (hc : PT X c tc) (ha : PT X a ta) (hb : PT X b tb) : PT X (.IfExp c a b pos) (fun σ H Q => tc σ H fun x H1 => if x = true then ta σ H1 Q else tb σ H1 Q) := by
  refine ⟨fun pins s σ H Q I h => ?_⟩
  refine isTrue_IfExp (thn (hc.run pins s σ H _ I h) fun d s1 ⟨H1, I1, q1⟩ => ?_)
  cases d with
  | true => exact ha.run pins s1 σ H1 Q I1 q1
  | false => exact hb.run pins s1 σ H1 Q I1 q1

/-- a choice by a test: read by the test's bool -/
theorem ite_split {α β : Type} {R : Hp → β → α → Prop} {Q : β → Hp → Prop} {c : Slim.E} {i : S.I} {B : Addr → Prop} {τ : Sl} {g : S.G} {σ : L2.St} {H : Hp} {fa fb : D → S.G → Res S α} {Q1 : Bool → Hp → Prop} (er : ER S i B τ g σ H)
    (p : Post S cls i B H R Q E ((ev S T c τ g).bind fun x g => match tru x with
      | some true => fa x g
      | some false => fb x g
      | none => .no))
    (q : ∀ b d g1 H1, Kp (S.bad i) H H1 → S.ok i g1 H1 → Post S cls i B H1 R Q E (if b = true then fa d g1 else fb d g1) → Q1 b H1) : tT S T cls E c σ H Q1 := by
  refine ⟨i, B, τ, g, er, ?_⟩
  cases e : ev S T c τ g with
  | ok d g1 =>
    rw [e] at p
    have p1 : Post S cls i B H R Q E (match tru d with
      | some true => fa d g1
      | some false => fb d g1
      | none => .no) := p
    show Post S cls i B H _ _ E (Res.of (tru d) g1)
    cases e1 : tru d with
    | none => rw [e1] at p1; exact p1.elim
    | some b =>
      rw [e1] at p1
      rintro v H1 k1 r o
      subst r
      refine q v d g1 H1 k1 o (Post.later ?_ k1)
      cases v with
      | true => exact p1
      | false => exact p1
  | ex c t g1 => rw [e] at p; exact p
  | no => rw [e] at p; exact p
theorem snd_ite {c a b : Slim.E} (ic : Snd S CX cls T kws gc k N c) (ia : Snd S CX cls T kws gc k N a) (ib : Snd S CX cls T kws gc k N b) : Snd S CX cls T kws gc k N (.ite c a b) := by
  refine Snd.expr (fun _ _ => rfl) (fun _ _ => rfl) (fun _ _ _ => rfl) (fun {E sc asg X} G e h => ?_) fun {E sc asg X} G e h => ?_
  · simp only [chk] at h
    split at h
    · simp only [Bool.and_eq_true] at h
      refine PE.by (pe_ifExp (ic.pt G _ h.1.1) (ia.pe G _ h.1.2) (ib.pe G _ h.2)) fun σ H Q z => ?_
      obtain ⟨j, B, τ, g, er, p⟩ := z
      simp only [ev] at p
      refine ite_split er p fun x d g1 H1 k1 o1 p1 => ?_
      cases x with
      | true => exact ⟨j, B, τ, g1, er.step k1 o1, p1⟩
      | false => exact ⟨j, B, τ, g1, er.step k1 o1, p1⟩
    · cases h
  · simp only [chk] at h
    split at h
    · simp only [Bool.and_eq_true] at h
      refine PT.by (pt_ifE (ic.pt G _ h.1.1) (ia.pt G _ h.1.2) (ib.pt G _ h.2)) fun σ H Q z => ?_
      obtain ⟨j, B, τ, g, er, p⟩ := z
      simp only [ev, bind_assoc] at p
      refine ite_split (fa := fun _ g => (ev S T a τ g).bind fun x g => .of (tru x) g) (fb := fun _ g => (ev S T b τ g).bind fun x g => .of (tru x) g) (R := fun _ (v : Bool) (d : Bool) => v = d) (Q := Q) er ?_ fun x d g1 H1 k1 o1 p1 => ?_
      · cases e : ev S T c τ g with
        | ok d g1 =>
          rw [e] at p
          simp only [Res.bind] at p ⊢
          split <;> rename_i e1 <;> rw [e1] at p <;> exact p
        | ex c t g1 => rw [e] at p; exact p
        | no => rw [e] at p; exact p
      · cases x with
        | true => exact ⟨j, B, τ, g1, er.step k1 o1, p1⟩
        | false => exact ⟨j, B, τ, g1, er.step k1 o1, p1⟩
    · cases h
end
end Slim

set_option Elab.async false
set_option linter.all false
set_option maxRecDepth 100000
set_option maxHeartbeats 4000000
/-! SLIM 9b: x[::-1] of a list or a tuple. -/
namespace Slim
open PySem PySem.Spec PyProof.Rows L2
section
variable {prog : Program} {w : World} {A : Around} {E : Value → Shared → Prop} {s : Shared}
theorem places_back (n : Nat) : Builtin.Slice.slicePlaces ((n : Int) - 1) (-1) (-1) = n := by
  unfold Builtin.Slice.slicePlaces
  rw [if_neg (by decide)]
  by_cases h : (n : Int) - 1 > -1
  · rw [if_pos h]
    have e : ((n : Int) - 1 - -1 - 1) / (- -1) = (n : Int) - 1 := by
      rw [show (- -1 : Int) = 1 from rfl, Int.ediv_one]; omega
    rw [e]
    omega
  · rw [if_neg h]
    omega
theorem applied_back {sl : Addr} {vs : Value} {n : Nat} {Q : Int × Int × Nat → Shared → Prop} (hs : s.heap.IsSliceOf sl .none .none vs) (ps : IsPart vs (some (-1))) (h : Q ((n : Int) - 1, -1, n) s) :
    wpAny (model prog w) A (Builtin.Slice.sliceApplied (.ref sl) (pure (n : Int))) Q E s := by
  obtain ⟨ob, e1, e2, e3⟩ := id hs
  unfold Builtin.Slice.sliceApplied Builtin.Slice.sliceFields
  refine wpAny_bind (wpAny_bind (wpAny_field e1 e3 (x := .none) rfl (wpAny_bind (wpAny_field e1 e3 (x := .none) rfl (wpAny_bind (wpAny_field e1 e3 (x := vs) rfl (wpAny_pure ?_)))))))
  refine wpAny_bind (HT.slicePart_ ps ?_)
  show wpAny _ _ (if ((-1 : Int) == 0) = true then _ else _) _ _ s
  rw [if_neg (by decide)]
  refine wpAny_bind (HT.slicePart_ IsPart.none (wpAny_bind (HT.slicePart_ IsPart.none (wpAny_bind (wpAny_pure ?_)))))
  show wpAny _ _ (pure ((n : Int) - 1, (-1 : Int), Builtin.Slice.slicePlaces ((n : Int) - 1) (-1) (-1))) _ _ s
  rw [places_back]
  exact wpAny_pure h
theorem pick_back (xs : Array Value) : ((List.range xs.size).filterMap fun (m : Nat) => xs[((xs.size : Int) - 1 + (m : Int) * -1).toNat]?).toArray = xs.toList.reverse.toArray := by
  have e : (fun (m : Nat) => xs[((xs.size : Int) - 1 + (m : Int) * -1).toNat]?) = (fun j => xs[j]?) ∘ fun m => xs.size - 1 - m := by
    funext m
    have : ((xs.size : Int) - 1 + (m : Int) * -1).toNat = xs.size - 1 - m := by omega
    simp only [Function.comp, this]
  rw [e, ← List.filterMap_map, PySem.W.krv_range, List.filterMap_reverse, PySem.W.krv_all]
theorem item_back {t sl : Addr} {items : Array Value} {vs : Value} {Q : Value → Shared → Prop} (ht : IsTup s.heap t items) (hs : s.heap.IsSliceOf sl .none .none vs) (ps : IsPart vs (some (-1)))
    (h : Q (.ref s.heap.objs.size) { s with heap := s.heap.push { cls := .type "tuple", data := .seq items.toList.reverse.toArray } }) (hz : items.size ≤ sizeLine) : wpAny (model prog w) A (getItem (.ref t) (.ref sl)) Q E s := by
  have fits : sizeOk (.seq items.toList.reverse.toArray) := by
    show items.toList.reverse.toArray.size ≤ sizeLine
    rw [List.size_toArray, List.length_reverse, Array.length_toList]
    exact hz
  obtain ⟨ob, e1, e2, e3⟩ := id hs
  have tS : s.TypeIs (.ref sl) "slice" := ⟨ob, e1, e2⟩
  unfold getItem
  refine wpAny_holding ?_
  refine wpAny_bind (wpAny_sequenceKey ht.typeIs (by decide) ?_)
  refine wpAny_bind (wpAny_callSpecial?_slot (name := Str.ofString "__getitem__") ht.typeIs PyProof.Rows.slot_tuple_getitem (wpAny_call_entry PyProof.Rows.slot_tuple_getitem ht.typeIs entry_tuple_getitem ?_ (args_tuple_getitem _ _)))
  show wpAny _ _ (Builtin.Tuple.tupleItemsOf (.ref t) >>= fun _ => _) _ _ s
  refine wpAny_bind (PyProof.Rows.tupleItemsOf_ ht ?_)
  refine wpAny_bind (wpAny_typeOf tS ?_)
  rw [if_pos (by decide)]
  refine wpAny_bind (applied_back hs ps ?_)
  have no : ¬ ((((items.size : Int) - 1 == 0) && ((-1 : Int) == 1) && (items.size == items.size)) = true) := by
    rw [show ((-1 : Int) == 1) = false from rfl, Bool.and_false, Bool.false_and]
    decide
  show wpAny _ _ (if (((items.size : Int) - 1 == 0) && ((-1 : Int) == 1) && (items.size == items.size)) = true then _ else _) _ _ s
  rw [if_neg no, pick_back]
  first
  | exact wpAny_bind (m := Builtin.Tuple.tupleExact _) (wpAny_newObj_type (s := s) (wpAny_pure ⟨_, rfl, wpAny_pure h⟩) fits)
  | exact wpAny_bind (wpAny_bind (m := Builtin.Tuple.tupleExact _) (wpAny_newObj_type (s := s) (wpAny_pure (wpAny_pure ⟨_, rfl, wpAny_pure h⟩)) fits))
  | exact wpAny_bind (m := Builtin.Tuple.tupleExact _) (wpAny_newObj_type (s := s) (wpAny_bind (wpAny_pure (wpAny_pure ⟨_, rfl, wpAny_pure h⟩))) fits)
end

/-- x[::-1] -/
def tRevA (K : PySem.W.Frag) (te : TE) : TE := fun σ H Q => te σ H fun x H1 => ∃ a xs, x = .ref a ∧ ((SqL K H1 a xs ∧ ∀ p, H1 p = none → Q (.ref p) (upd H1 p (.lst xs.reverse))) ∨ (SqT K H1 a xs ∧ ∀ p, H1 p = none → Q (.ref p) (upd H1 p (.tup xs.reverse))))
theorem pe_revA {X : Cx} {e : Expr} {te : TE} {k : Nat} {p1 p2 p3 pos : Pos} (he : PE X e te) : PE X (.Subscript e (.Slice none none (some (.UnaryOp .USub (.Constant (.int 1) k p1) p2)) p3) pos) (tRevA X.K te) := by
  refine ⟨fun pins s σ H Q I h => Subscript_ (thn (he.run pins s σ H _ I h) fun v s1 ⟨x, H1, I1, r1, q1⟩ => ?_)⟩
  obtain ⟨a, xs, rfl, q⟩ := q1
  cases r1
  have step : PO X (some (.UnaryOp .USub (.Constant (.int 1) k p1) p2)) (tPart (tUn (rU fun i => .int (-i)) (tC (.int 1)))) := po_some (pe_un un_neg pe_int)
  refine wpAny_Slice (thn (po_none.run pins s1 σ H1 (fun o H2 => o = none ∧ H2 = H1) I1 ⟨rfl, rfl⟩) fun vl s2 ⟨l, H2, I2, pl, z1, z2⟩ => ?_)
  subst z1 z2
  refine thn (po_none.run pins s2 σ H2 (fun o H3 => o = none ∧ H3 = H2) I2 ⟨rfl, rfl⟩) fun vu s3 ⟨u, H3, I3, pu, z3, z4⟩ => ?_
  subst z3 z4
  refine thn (step.run pins s3 σ H3 (fun o H4 => o = some (-1) ∧ H4 = H3) I3 ⟨1, rfl, -1, rfl, rfl, rfl⟩) fun vs s4 ⟨o, H4, I4, ps, z5, z6⟩ => ?_
  subst z5 z6
  cases pl
  cases pu
  have I5 : Inv X pins σ H4 { s4 with heap := s4.heap.push { cls := .type "slice", data := .fields #[.none, .none, vs] } } := I4.kept (t' := s4.toks) fun b ob e => Heap.get?_push_of_some _ e
  show wpAny (model X.prog X.w) X.A (subscriptTail e (.Slice none none (some (.UnaryOp .USub (.Constant (.int 1) k p1) p2)) p3) (.ref a) (.ref s4.heap.objs.size)) (EP X pins σ Q) X.xe { s4 with heap := s4.heap.push { cls := .type "slice", data := .fields #[.none, .none, vs] } }
  rcases q with ⟨hx, q⟩ | ⟨hx, q⟩
  · obtain ⟨its, r, ht, hz⟩ := I5.list hx
    have hlen := r.length
    refine tail_any (ops := [.ref a, .ref s4.heap.objs.size]) ht.isList.typeIs (PySem.slot_list_getitem.lookup) (wpAny_getItem_list_slice ht.isList (Heap.IsSliceOf.new _ .none .none vs) .none .none ps (by decide) ?_ (by rw [List.size_toArray]; omega)) (by with_unfolding_all rfl)
    rw [PySem.W.krv_pick]
    exact ⟨.ref _, _, I5.laid (t' := s4.toks) (o := .lst xs.reverse) (fun b ob e => Heap.get?_push_of_some _ e) (Nat.le_refl _) ⟨by rw [List.length_reverse]; exact hz, _, 0, r.reverse, Heap.get?_push_size _ rfl⟩, rfl, q _ (I5.hok.fresh (Nat.le_refl _))⟩
  · obtain ⟨its, r, ht, hz⟩ := I5.tuple hx
    have hlen := r.length
    refine tail_any (ops := [.ref a, .ref s4.heap.objs.size]) ht.typeIs PyProof.Rows.slot_tuple_getitem.lookup (item_back ht (Heap.IsSliceOf.new _ .none .none vs) ps ?_ (by rw [List.size_toArray]; omega)) (by with_unfolding_all rfl)
    exact ⟨.ref _, _, I5.laid (t' := s4.toks) (o := .tup xs.reverse) (fun b ob e => Heap.get?_push_of_some _ e) (Nat.le_refl _) ⟨by rw [List.length_reverse]; exact hz, _, r.reverse, _, Heap.get?_push_size _ rfl, rfl, _, rfl⟩, rfl, q _ (I5.hok.fresh (Nat.le_refl _))⟩
end Slim

set_option Elab.async false
set_option linter.all false
set_option maxRecDepth 100000
set_option maxHeartbeats 4000000
/-! SLIM 10: arguments, displays, items, and, or. -/
namespace Slim
open PySem PySem.Spec PyProof.Rows L2
section
variable {S : GS} {CX : CXT} {cls : Cls} {T : Tab S} {kws : Str → List (List Str × List Nat)} {gc : Bool} {k : Nat} {E : XK} {N : List Str} {sc : Scope} {asg : Str → Bool} {X : Cx}

/-- a value of its own kind: test by truth -/
theorem Snd.val {m : Slim.E} (ha : ∀ sc es, chkA N gc kws m sc es = false) (ho : ∀ sc e, chkO N gc kws m sc e = false) (hi : ∀ sc tg e, chkI N gc kws m sc tg e = false)
    (hw : ∀ sc e, chk N gc kws m sc e = true → ∀ (env : Env) whole, isTrue e env whole = (do let v ← whole; standAt e.pos; holding [v] (truthy v)))
    (pe : ∀ {E sc asg X}, Good S CX cls T kws gc k E N sc asg X → ∀ e, chk N gc kws m sc e = true → PE X e (tE S T cls E m)) : Snd S CX cls T kws gc k N m :=
  Snd.expr ha ho hi pe fun {E sc asg X} G e h => tT_truth (pe G e h) (hw sc e h X.env)
theorem snd_tup {as : Slim.E} (ia : Snd S CX cls T kws gc k N as) : Snd S CX cls T kws gc k N (.tup as) := by
  refine Snd.val (fun _ _ => rfl) (fun _ _ => rfl) (fun _ _ _ => rfl) (fun sc e h env => ?_) fun {E sc asg X} G e h => ?_
  · simp only [chk] at h
    split at h
    · exact fun _ => rfl
    · cases h
  · simp only [chk] at h
    split at h
    · refine PE.by (pe_tup (ia.pa G _ h)) fun σ H Q z => ?_
      obtain ⟨j, B, τ, g, er, p⟩ := z
      simp only [ev] at p
      refine ⟨j, B, τ, g, er, p.split fun ds g1 vs H1 _ k1 r1 o1 p1 => ?_⟩
      split at p1
      · rename_i hl
        refine ⟨by rw [r1.length]; exact lim_line hl, fun q hq => p1 _ _ (k1.trans (Kp.new hq)) (Rep.newT (er.dom' k1 o1) r1 hq) (GS.same o1 (Kp.new hq))⟩
      · exact p1.elim
    · cases h
theorem snd_lst {as : Slim.E} (ia : Snd S CX cls T kws gc k N as) : Snd S CX cls T kws gc k N (.lst as) := by
  refine Snd.val (fun _ _ => rfl) (fun _ _ => rfl) (fun _ _ _ => rfl) (fun sc e h env => ?_) fun {E sc asg X} G e h => ?_
  · simp only [chk] at h
    split at h
    · exact fun _ => rfl
    · cases h
  · simp only [chk] at h
    split at h
    · refine PE.by (pe_lst (ia.pa G _ h)) fun σ H Q z => ?_
      obtain ⟨j, B, τ, g, er, p⟩ := z
      simp only [ev] at p
      refine ⟨j, B, τ, g, er, p.split fun ds g1 vs H1 _ k1 r1 o1 p1 => ?_⟩
      split at p1
      · rename_i hl
        refine ⟨by rw [r1.length]; exact lim_line hl, fun q hq => p1 _ _ (k1.trans (Kp.new hq)) (Rep.newL (er.dom' k1 o1) r1 hq) (GS.same o1 (Kp.new hq))⟩
      · exact p1.elim
    · cases h
theorem snd_idx {a b : Slim.E} (ia : Snd S CX cls T kws gc k N a) (ib : Snd S CX cls T kws gc k N b) : Snd S CX cls T kws gc k N (.idx a b) := by
  refine Snd.val (fun _ _ => rfl) (fun _ _ => rfl) (fun _ _ _ => rfl) (fun sc e h env => ?_) fun {E sc asg X} G e h => ?_
  · simp only [chk] at h
    split at h
    · exact fun _ => rfl
    · cases h
  · simp only [chk] at h
    split at h
    · simp only [Bool.and_eq_true] at h
      refine PE.by (pe_ix (r_ix G.hu) (ia.pe G _ h.1.1) (ib.pe G _ h.1.2) (noSlice_ix h.2)) fun σ H Q z => ?_
      obtain ⟨j, B, τ, g, er, p⟩ := z
      simp only [ev] at p
      refine ⟨j, B, τ, g, er, p.split fun d1 g1 v H1 _ k1 r1 o1 p1 => ?_⟩
      have er1 := er.step k1 o1
      refine ⟨j, B, τ, g1, er1, (p1.later k1).split fun d2 g2 w H2 _ k2 r2 o2 p2 => ?_⟩
      obtain ⟨d, e1, q⟩ := p2.of
      exact ⟨B, d1, d2, d, er1.dom' k2 o2, r1.keep (er1.kp k2), r2, e1, fun u H3 k3 r3 => q u H3 (k2.trans k3.any) r3 (GS.same o2 k3)⟩
    · cases h
theorem snd_slc {a lo hi : Slim.E} (ia : Snd S CX cls T kws gc k N a) (il : Snd S CX cls T kws gc k N lo) (ih : Snd S CX cls T kws gc k N hi) : Snd S CX cls T kws gc k N (.slc a lo hi) := by
  refine Snd.val (fun _ _ => rfl) (fun _ _ => rfl) (fun _ _ _ => rfl) (fun sc e h env => ?_) fun {E sc asg X} G e h => ?_
  · simp only [chk] at h
    split at h
    · exact fun _ => rfl
    · cases h
  · simp only [chk] at h
    split at h
    · simp only [Bool.and_eq_true] at h
      refine PE.by (pe_slice r_slc (ia.pe G _ h.1.1) (il.po G _ h.1.2) (ih.po G _ h.2)) fun σ H Q z => ?_
      obtain ⟨j, B, τ, g, er, p⟩ := z
      simp only [ev] at p
      refine ⟨j, B, τ, g, er, p.split fun d1 g1 v H1 _ k1 r1 o1 p1 => ?_⟩
      have er1 := er.step k1 o1
      refine ⟨j, B, τ, g1, er1, (p1.later k1).split fun l g2 w H2 _ k2 r2 o2 p2 => ?_⟩
      subst r2
      have er2 := er1.step k2 o2
      refine ⟨j, B, τ, g2, er2, (p2.later k2).split fun h' g3 u H3 _ k3 r3 o3 p3 => ?_⟩
      subst r3
      obtain ⟨d, e1, q⟩ := p3.of
      exact ⟨B, d1, d, er2.dom' k3 o3, (r1.keep (er1.kp k2)).keep (er2.kp k3), e1, fun u H4 k4 r4 _ => q u H4 (k3.trans k4.any) r4 (GS.same o3 k4)⟩
    · cases h
theorem snd_rev {a : Slim.E} (ia : Snd S CX cls T kws gc k N a) : Snd S CX cls T kws gc k N (.rev a) := by
  refine Snd.val (fun _ _ => rfl) (fun _ _ => rfl) (fun _ _ _ => rfl) (fun sc e h env => ?_) fun {E sc asg X} G e h => ?_
  · simp only [chk] at h
    split at h
    · exact fun _ => rfl
    · cases h
  · simp only [chk] at h
    split at h
    · simp only [Bool.and_eq_true] at h
      obtain ⟨h1, h2⟩ := h
      unfold minus1 at h2
      split at h2
      · have h3 := beq_iff_eq.mp h2
        subst h3
        refine PE.by (pe_revA (ia.pe G _ h1)) fun σ H Q z => ?_
        obtain ⟨j, B, τ, g, er, p⟩ := z
        simp only [ev] at p
        refine ⟨j, B, τ, g, er, p.split fun d1 g1 v H1 _ k1 r1 o1 p1 => ?_⟩
        cases d1 with
        | list xs =>
          obtain ⟨b, vs, rfl, _, ha, ra⟩ := r1.lstAt
          exact ⟨b, vs, rfl, .inl ⟨SqL.of ha, fun q hq => p1 _ _ (k1.trans (Kp.new hq)) (Rep.newL (er.dom' k1 o1) ra.rev hq) (GS.same o1 (Kp.new hq))⟩⟩
        | tuple xs =>
          obtain ⟨b, vs, rfl, _, ha, ra⟩ := r1.tupAt
          exact ⟨b, vs, rfl, .inr ⟨.inl ha, fun q hq => p1 _ _ (k1.trans (Kp.new hq)) (Rep.newT (er.dom' k1 o1) ra.rev hq) (GS.same o1 (Kp.new hq))⟩⟩
        | _ => exact p1.elim
      · cases h2
    · cases h

/-! ### lists of arguments -/
theorem chkA_nil {sc : Scope} {es : List Expr} (h : chkA N gc kws .nil sc es = true) : es = [] := by
  cases es with
  | nil => rfl
  | cons a r => simp [chkA] at h
theorem chkA_cons {a as : Slim.E} {sc : Scope} {es : List Expr} (h : chkA N gc kws (.cons a as) sc es = true) : ∃ e r, es = e :: r ∧ noStar e = true ∧ chk N gc kws a sc e = true ∧ chkA N gc kws as sc r = true := by
  cases es with
  | nil => simp [chkA] at h
  | cons e r =>
    simp only [chkA, Bool.and_eq_true] at h
    exact ⟨e, r, rfl, h.1.1, h.1.2, h.2⟩
theorem snd_nil : Snd S CX cls T kws gc k N .nil where
  pe := fun G e h => by simp [chk] at h
  pt := fun G e h => by simp [chk] at h
  pa := fun {E sc asg X} G es h => by
    rw [chkA_nil h]
    refine PA.by pa_nil fun σ H Q z => ?_
    obtain ⟨j, B, τ, g, er, p⟩ := z
    simp only [evs] at p
    exact p [] H Kp.refl .nil er.ok
  pb := fun {E sc asg X} G b es pos ne h => absurd (chkA_nil h) ne
  pw := fun {E sc asg X} G b es pos ne h => absurd (chkA_nil h) ne
  pk := fun {E sc asg X} G kw h => by
    have := chkA_nil h
    have : kw = [] := by simpa using this
    subst this
    refine ⟨fun pos pins s σ H Q I z => pk_nil.run pos pins s σ H Q I ?_⟩
    obtain ⟨j, B, τ, g, er, p⟩ := z
    simp only [evs] at p
    exact p [] H Kp.refl .nil er.ok
  po := fun {E sc asg X} G e h => by
    simp only [chkO, Option.isNone_iff_eq_none] at h
    subst h
    refine PO.by po_none fun σ H Q z => ?_
    obtain ⟨j, B, τ, g, er, p⟩ := z
    simp only [evo] at p
    exact p none H Kp.refl rfl er.ok
  pi := fun G tg e h => by simp [chkI] at h
theorem args_read {a as : Slim.E} {E : XK} {σ : L2.St} {H : Hp} {Q : List V → Hp → Prop} (z : tA S T cls E (.cons a as) σ H Q) : tCons (tE S T cls E a) (tA S T cls E as) σ H Q := by
  obtain ⟨j, B, τ, g, er, p⟩ := z
  simp only [evs] at p
  refine ⟨j, B, τ, g, er, p.split fun d g1 v H1 _ k1 r1 o1 p1 => ?_⟩
  have er1 := er.step k1 o1
  refine ⟨j, B, τ, g1, er1, (p1.later k1).split fun ds g2 vs H2 _ k2 r2 o2 p2 => ?_⟩
  exact p2 _ H2 k2 (.cons (r1.keep (er1.kp k2)) r2) o2
theorem evb_cons {b : Bool} {a as : Slim.E} (h : as ≠ .nil) (τ : Sl) (g : S.G) : evb S T b (.cons a as) τ g = (ev S T a τ g).bind fun x g => match tru x with
    | some c => if c = b then evb S T b as τ g else .ok x g
    | none => .no := by
  cases as <;> first | (exact absurd rfl h) | rfl

/-- a source that is a list or a tuple -/
theorem pi_seq {tg e : Expr} {te : TE} (h : PE X e te) (hs : ∀ x, foldedSetIterable e X.env x = pure x) :
    PI X tg e (fun σ H R => te σ H fun x H1 => ∃ a, x = .ref a ∧ ((∃ xs, H1 a = some (.lst xs) ∧ R (Itl X.K a) H1) ∨ ∃ xs, Rd H1 a (.tup xs) ∧ R (Itt X.K a) H1)) := by
  refine ⟨fun pins s σ H R I z => ?_⟩
  refine thn (h.run pins s σ H _ I z) ?_
  rintro v s1 ⟨x, H1, I1, r1, a, rfl, q⟩
  cases r1
  have fin : ∀ b ∈ [s1.heap.objs.size], FpOk X pins H1 b := fun b hb => by
    obtain rfl := List.mem_singleton.mp hb
    exact I1.fpOk (Nat.le_refl _) (I1.hok.fresh (Nat.le_refl _))
  rcases q with ⟨xs, ha, q⟩ | ⟨xs, ha, q⟩
  · obtain ⟨its, rv, p, hz⟩ := I1.list (SqL.of ha)
    refine wpAny_pyIter_list p.isList ⟨_, [s1.heap.objs.size], _, _, H1, rfl, ?_, turn_list a _, ⟨_, Heap.get?_push_size _ rfl, rfl, rfl⟩, fin, q⟩
    exact I1.kept (t' := s1.toks) (fun b o e => Heap.get?_push_of_some _ e)
  · obtain ⟨its, rv, p, hz⟩ := I1.tuple (.inl ha)
    refine wpAny_pyIter_tuple (show s1.heap.IsTuple a its.toArray from p) ⟨_, [s1.heap.objs.size], _, _, H1, rfl, ?_, turn_tuple a _, ⟨_, Heap.get?_push_size _ rfl, rfl, rfl⟩, fin, q⟩
    exact I1.kept (t' := s1.toks) (fun b o e => Heap.get?_push_of_some _ e)
theorem chkA_ne {as : Slim.E} {sc : Scope} {e : Expr} {r : List Expr} (h : chkA N gc kws as sc (e :: r) = true) : as ≠ .nil := fun z => by
  subst z; simp [chkA] at h
theorem chkA_end {as : Slim.E} {sc : Scope} (h : chkA N gc kws as sc [] = true) : as = .nil := by
  cases as <;> first | rfl | (simp [chkA] at h)
theorem snd_cons {a as : Slim.E} (ia : Snd S CX cls T kws gc k N a) (is : Snd S CX cls T kws gc k N as) : Snd S CX cls T kws gc k N (.cons a as) where
  pe := fun G e h => by simp [chk] at h
  pt := fun G e h => by simp [chk] at h
  pa := fun {E sc asg X} G es h => by
    obtain ⟨e, r, rfl, h1, h2, h3⟩ := chkA_cons h
    exact PA.by (pa_cons (ia.pe G e h2) (is.pa G r h3) (star_cons h1)) fun σ H Q z => args_read z
  pb := fun {E sc asg X} G b es pos ne h => by
    obtain ⟨e, r, rfl, h1, h2, h3⟩ := chkA_cons h
    cases r with
    | nil =>
      have := chkA_end h3
      subst this
      refine PE.by (pe_one (ia.pe G e h2)) fun σ H Q z => ?_
      obtain ⟨j, B, τ, g, er, p⟩ := z
      simp only [evb] at p
      exact ⟨j, B, τ, g, er, p⟩
    | cons e2 r =>
      have hn := chkA_ne h3
      have core : ∀ {σ : L2.St} {H : Hp} {Q : VK}, tBE S T cls E b (.cons a as) σ H Q → tE S T cls E a σ H fun x H1 => ∃ k, TruV X.K x H1 k ∧ if k = b then tBE S T cls E b as σ H1 Q else Q x H1 := fun {σ H Q} z => by
        obtain ⟨j, B, τ, g, er, p⟩ := z
        rw [evb_cons hn] at p
        refine ⟨j, B, τ, g, er, p.split fun d g1 v H1 _ k1 r1 o1 p1 => ?_⟩
        split at p1
        · rename_i c e1
          refine ⟨c, tru_of r1 e1, ?_⟩
          split at p1
          · rename_i hc
            rw [if_pos hc]
            exact ⟨j, B, τ, g1, er.step k1 o1, p1.later k1⟩
          · rename_i hc
            rw [if_neg hc]
            exact p1 v H1 k1 r1 o1
        · exact p1.elim
      cases b with
      | true => exact PE.by (pe_andT (ia.pe G e h2) (is.pb G true (e2 :: r) pos (by simp) h3)) fun σ H Q z => core z
      | false =>
        refine PE.by (pe_orT (ia.pe G e h2) (is.pb G false (e2 :: r) pos (by simp) h3)) fun σ H Q z => ?_
        obtain ⟨j, B, τ, g, er, p⟩ := core z
        refine ⟨j, B, τ, g, er, p.imp fun d g1 _ v H1 k1 r1 o1 q => ?_⟩
        obtain ⟨c, tc, q⟩ := q
        refine ⟨c, tc, ?_⟩
        cases c with
        | true => simpa using q
        | false => simpa using q
  pw := fun {E sc asg X} G b es pos ne h => by
    obtain ⟨e, r, rfl, h1, h2, h3⟩ := chkA_cons h
    cases r with
    | nil =>
      have := chkA_end h3
      subst this
      have core : ∀ {σ : L2.St} {H : Hp} {Q : Bool → Hp → Prop}, tBT S T cls E b (.cons a .nil) σ H Q → tT S T cls E a σ H Q := fun {σ H Q} z => by
        obtain ⟨j, B, τ, g, er, p⟩ := z
        simp only [evb] at p
        exact ⟨j, B, τ, g, er, p⟩
      cases b with
      | true => exact PW.by (pw_and1 (ia.pt G e h2)) fun σ H Q z => core z
      | false => exact PW.by (pw_or1 (ia.pt G e h2)) fun σ H Q z => core z
    | cons e2 r =>
      have hn := chkA_ne h3
      have core : ∀ {σ : L2.St} {H : Hp} {Q : Bool → Hp → Prop}, tBT S T cls E b (.cons a as) σ H Q → tT S T cls E a σ H fun x H1 => if x = b then tBT S T cls E b as σ H1 Q else Q x H1 := fun {σ H Q} z => by
        obtain ⟨j, B, τ, g, er, p⟩ := z
        rw [evb_cons hn, bind_assoc] at p
        refine ⟨j, B, τ, g, er, ?_⟩
        cases e0 : ev S T a τ g with
        | ok d g1 =>
          rw [e0] at p
          simp only [Res.bind] at p ⊢
          cases e1 : tru d with
          | none => rw [e1] at p; exact p.elim
          | some c =>
            rw [e1] at p
            rintro v H1 k1 rfl o1
            simp only at p
            by_cases hc : v = b
            · rw [if_pos hc]
              rw [if_pos hc] at p
              exact ⟨j, B, τ, g1, er.step k1 o1, p.later k1⟩
            · rw [if_neg hc]
              rw [if_neg hc] at p
              simp only [e1] at p
              exact p v H1 k1 rfl o1
        | ex c t g1 => rw [e0] at p; exact p
        | no => rw [e0] at p; exact p
      cases b with
      | true =>
        refine PW.by (pw_and (ia.pt G e h2) (is.pw G true (e2 :: r) pos (by simp) h3)) fun σ H Q z => ?_
        obtain ⟨j, B, τ, g, er, p⟩ := core z
        refine ⟨j, B, τ, g, er, p.imp fun d g1 _ v H1 k1 r1 o1 q => ?_⟩
        cases v with
        | true => simpa using q
        | false => simpa using q
      | false =>
        refine PW.by (pw_or (ia.pt G e h2) (is.pw G false (e2 :: r) pos (by simp) h3)) fun σ H Q z => ?_
        obtain ⟨j, B, τ, g, er, p⟩ := core z
        refine ⟨j, B, τ, g, er, p.imp fun d g1 _ v H1 k1 r1 o1 q => ?_⟩
        cases v with
        | true => simpa using q
        | false => simpa using q
  pk := fun {E sc asg X} G kw h => by
    cases kw with
    | nil => exact absurd h (by simp [chkA])
    | cons q r =>
      obtain ⟨nm, e, pos⟩ := q
      obtain ⟨e', r', he, h1, h2, h3⟩ := chkA_cons h
      simp only [List.map_cons, List.cons.injEq] at he
      obtain ⟨rfl, rfl⟩ := he
      have P := pk_cons (nm := nm) (kpos := pos) (ia.pe G _ h2) (is.pk G r h3)
      exact ⟨fun pos pins s σ H Q I z => P.run pos pins s σ H Q I (args_read z)⟩
  po := fun {E sc asg X} G e h => by
    simp only [chkO] at h
    split at h
    · refine PO.by (po_some (ia.pe G _ h)) fun σ H Q z => ?_
      obtain ⟨j, B, τ, g, er, p⟩ := z
      simp only [evo] at p
      refine ⟨j, B, τ, g, er, p.split fun d g1 v H1 _ k1 r1 o1 p1 => ?_⟩
      cases d with
      | int n =>
        cases r1.intAt
        exact ⟨n, rfl, p1 _ H1 k1 rfl o1⟩
      | _ => exact p1.elim
    · cases h
  pi := fun {E sc asg X} G tg e h => by
    simp only [chkI, Bool.and_eq_true] at h
    obtain ⟨h1, h2⟩ := h
    refine PI.by (pi_seq (ia.pe G e h1) (fun x => by cases e <;> first | rfl | (simp at h2))) fun σ H R z => ?_
    obtain ⟨j, B, τ, g, er, p⟩ := z
    simp only [evi] at p
    refine ⟨j, B, τ, g, er, p.split fun d g1 v H1 _ k1 r1 o1 p1 => ?_⟩
    cases d with
    | list xs =>
      obtain ⟨b, vs, rfl, nb, ha, ra⟩ := r1.lstAt
      refine ⟨b, rfl, .inl ⟨vs, ha, p1 _ H1 k1 ⟨fun v d => v = .ref b ∧ d = .list xs, ?_, fun B' H' _ hg => ?_⟩ o1⟩⟩
      · rintro v d ⟨rfl, rfl⟩
        exact r1
      obtain ⟨b', us, e0, _, hb, ra'⟩ := (hg _ _ ⟨rfl, rfl⟩).lstAt
      cases e0
      refine ⟨⟨us, SqL.of hb, Nat.le_of_eq ra'.length⟩, fun n hn => ?_⟩
      obtain ⟨v, hv, rv⟩ := ra'.get (List.getElem?_eq_getElem hn)
      refine ⟨⟨us, v, SqL.of hb, hv⟩, ?_⟩
      rintro x H'' ⟨rfl, hx⟩
      have := hx us (SqL.of hb)
      rw [hv] at this
      cases this
      exact ⟨_, List.getElem?_eq_getElem hn, Kp.refl, rv⟩
    | tuple xs =>
      obtain ⟨b, vs, rfl, nb, ha, ra⟩ := r1.tupAt
      refine ⟨b, rfl, .inr ⟨vs, ha, p1 _ H1 k1 ⟨fun v d => v = .ref b ∧ d = .tuple xs, ?_, fun B' H' _ hg => ?_⟩ o1⟩⟩
      · rintro v d ⟨rfl, rfl⟩
        exact r1
      obtain ⟨b', us, e0, _, hb, ra'⟩ := (hg _ _ ⟨rfl, rfl⟩).tupAt
      cases e0
      refine ⟨⟨us, .inl hb, Nat.le_of_eq ra'.length⟩, fun n hn => ?_⟩
      obtain ⟨v, hv, rv⟩ := ra'.get (List.getElem?_eq_getElem hn)
      refine ⟨⟨us, v, .inl hb, hv⟩, ?_⟩
      rintro x H'' ⟨rfl, hx⟩
      have := hx us (.inl hb)
      rw [hv] at this
      cases this
      exact ⟨_, List.getElem?_eq_getElem hn, Kp.refl, rv⟩
    | _ => exact p1.elim
theorem snd_and {as : Slim.E} (ia : Snd S CX cls T kws gc k N as) : Snd S CX cls T kws gc k N (.and as) := by
  refine Snd.expr (fun _ _ => rfl) (fun _ _ => rfl) (fun _ _ _ => rfl) (fun {E sc asg X} G e h => ?_) fun {E sc asg X} G e h => ?_
  · simp only [chk] at h
    split at h
    · simp only [Bool.and_eq_true, Bool.not_eq_true', List.isEmpty_eq_false_iff] at h
      refine PE.by (ia.pb G true _ _ h.2 h.1) fun σ H Q z => ?_
      obtain ⟨j, B, τ, g, er, p⟩ := z
      simp only [ev] at p
      exact ⟨j, B, τ, g, er, p⟩
    · cases h
  · simp only [chk] at h
    split at h
    · simp only [Bool.and_eq_true, Bool.not_eq_true', List.isEmpty_eq_false_iff] at h
      refine PT.by (ia.pw G true _ _ h.2 h.1).pt fun σ H Q z => ?_
      obtain ⟨j, B, τ, g, er, p⟩ := z
      simp only [ev] at p
      exact ⟨j, B, τ, g, er, p⟩
    · cases h
theorem snd_or {as : Slim.E} (ia : Snd S CX cls T kws gc k N as) : Snd S CX cls T kws gc k N (.or as) := by
  refine Snd.expr (fun _ _ => rfl) (fun _ _ => rfl) (fun _ _ _ => rfl) (fun {E sc asg X} G e h => ?_) fun {E sc asg X} G e h => ?_
  · simp only [chk] at h
    split at h
    · simp only [Bool.and_eq_true, Bool.not_eq_true', List.isEmpty_eq_false_iff] at h
      refine PE.by (ia.pb G false _ _ h.2 h.1) fun σ H Q z => ?_
      obtain ⟨j, B, τ, g, er, p⟩ := z
      simp only [ev] at p
      exact ⟨j, B, τ, g, er, p⟩
    · cases h
  · simp only [chk] at h
    split at h
    · simp only [Bool.and_eq_true, Bool.not_eq_true', List.isEmpty_eq_false_iff] at h
      refine PT.by (ia.pw G false _ _ h.2 h.1).pt fun σ H Q z => ?_
      obtain ⟨j, B, τ, g, er, p⟩ := z
      simp only [ev] at p
      exact ⟨j, B, τ, g, er, p⟩
    · cases h
end
end Slim

set_option Elab.async false
set_option linter.all false
set_option maxRecDepth 100000
set_option maxHeartbeats 4000000
/-! SLIM 11: calls of built-in functions. -/
namespace Slim
open PySem PySem.Spec PyProof.Rows L2
section
variable {S : GS} {CX : CXT} {cls : Cls} {T : Tab S} {kws : Str → List (List Str × List Nat)} {gc : Bool} {k : Nat} {E : XK} {N : List Str} {sc : Scope} {asg : Str → Bool} {X : Cx}
theorem glName_of {x : Str} {f : Expr} (h : glName sc x f = true) : ∃ pos, f = .Name x pos ∧ sc.names.lookup x = some .globalImplicit ∧ (x == ("__debug__" : Str)) = false ∧ x ≠ "__name__" := by
  cases f <;> simp only [glName, reduceCtorEq, Bool.false_eq_true] at h
  rename_i y pos
  unfold glB at h
  simp only [Bool.and_eq_true, decide_eq_true_eq, Bool.not_eq_true', decide_eq_false_iff_not] at h
  obtain ⟨rfl, ⟨h1, h2⟩, h3⟩ := h
  exact ⟨pos, rfl, h1, h2, h3⟩
theorem Good.gl (G : Good S CX cls T kws gc k E N sc asg X) {x : Str} (h : sc.names.lookup x = some .globalImplicit) : Gl X x := by
  show X.env.scope.names.lookup x = _
  rw [G.scp]; exact h
theorem back1 {pos : Pos} {env : Env} {e : Expr} {es : List Expr} (h : starEach (e :: es) env = (false, eval e env) :: starEach es env) (h2 : (backTo pos (starEach es env)).any (·.1) = false) : (backTo pos (starEach (e :: es) env)).any (·.1) = false := by
  rw [any_back] at *
  rw [h, List.any_cons, h2]
  rfl
theorem chkA_plain {pos : Pos} {env : Env} : ∀ {as : Slim.E} {es : List Expr}, chkA N gc kws as sc es = true → (backTo pos (starEach es env)).any (·.1) = false
  | .nil, es, h => by rw [chkA_nil h]; rfl
  | .cons a as, es, h => by
    obtain ⟨e, r, rfl, h1, h2, h3⟩ := chkA_cons h
    exact back1 (star_cons h1) (chkA_plain h3)
  | .var _, _, h | .glob _, _, h | .lit _, _, h | .bin _ _ _, _, h | .neg _, _, h | .cmp _ _ _, _, h | .chn _ _ _ _ _, _, h | .and _, _, h | .or _, _, h | .not _, _, h | .ite _ _ _, _, h | .tup _, _, h | .lst _, _, h
  | .idx _ _, _, h | .slc _ _ _, _, h | .rev _, _, h | .call _ _ _, _, h | .callk _ _ _ _, _, h | .blt _ _, _, h | .isa _ _, _, h | .comp _ _ _ _ _, _, h | .rng1 _, _, h | .rng2 _ _, _, h | .enm _, _, h | .zp _ _, _, h => by simp [chkA] at h

/-- a built-in function's value, read -/
theorem blt_read {f : Bl} {as : Slim.E} {E : XK} {σ : L2.St} {H : Hp} {Q : VK} (z : tE S T cls E (.blt f as) σ H Q) : tCB (rBl (blt f)) (tA S T cls E as) σ H Q := by
  obtain ⟨j, B, τ, g, er, p⟩ := z
  simp only [ev] at p
  refine ⟨j, B, τ, g, er, p.split fun ds g1 vs H1 _ k1 r1 o1 p1 => ?_⟩
  obtain ⟨d, e1, q⟩ := p1.of
  exact ⟨B, ds, d, er.dom' k1 o1, r1, e1, fun v H2 k2 r2 => q v H2 (k1.trans k2.any) r2 (GS.same o1 k2)⟩
theorem one_pe (G : Good S CX cls T kws gc k E N sc asg X) {n : Str} {id : String} {b : Bl} {f : Expr} {es es' : List Expr} {kw : List Keyword} {pos : Pos} {as : Slim.E} (ia : Snd S CX cls T kws gc k N as)
    (h : oneB sc n f es kw = some es') (hA : chkA N gc kws as sc es' = true) (hc : CallR X (.builtin id) (rBl (blt b))) (hv : bootBuiltins n = some (.builtin id)) (hn : n ∈ bltNames) : PE X (.Call f es kw pos) (tE S T cls E (.blt b as)) := by
  unfold oneB at h
  split at h
  · split at h
    · rename_i e hq
      cases h
      simp only [Bool.and_eq_true] at hq
      obtain ⟨p, rfl, h1, h2, h3⟩ := glName_of hq.1
      exact PE.by (pe_callB hc (G.gl h1) (G.blt n hn) hv (ia.pa G _ hA) h3 h2 (star_cons hq.2) rfl) fun σ H Q z => blt_read z
    · cases h
  · cases h
theorem one_peT (G : Good S CX cls T kws gc k E N sc asg X) {n : Str} {id : String} {b : Bl} {f : Expr} {es es' : List Expr} {kw : List Keyword} {pos : Pos} {as : Slim.E} (ia : Snd S CX cls T kws gc k N as)
    (h : oneB sc n f es kw = some es') (hA : chkA N gc kws as sc es' = true) (hc : CallR X (.type id) (rBl (blt b))) (hv : bootBuiltins n = some (.type id)) (hn : n ∈ bltNames) : PE X (.Call f es kw pos) (tE S T cls E (.blt b as)) := by
  unfold oneB at h
  split at h
  · split at h
    · rename_i e hq
      cases h
      simp only [Bool.and_eq_true] at hq
      obtain ⟨p, rfl, h1, h2, h3⟩ := glName_of hq.1
      exact PE.by (pe_callTy hc (G.gl h1) (G.blt n hn) hv (ia.pa G _ hA) h3 h2 (star_cons hq.2) rfl) fun σ H Q z => blt_read z
    · cases h
  · cases h
theorem two_inv {n : Str} {f : Expr} {es es' : List Expr} {kw : List Keyword} (h : twoB sc n f es kw = some es') : ∃ e e2, es = [e, e2] ∧ kw = [] ∧ es' = [e, e2] ∧ glName sc n f = true ∧ noStar e = true ∧ noStar e2 = true := by
  unfold twoB at h
  split at h
  · split at h
    · rename_i hq
      cases h
      simp only [Bool.and_eq_true] at hq
      exact ⟨_, _, rfl, rfl, rfl, hq.1.1, hq.1.2, hq.2⟩
    · cases h
  · cases h
theorem two_pe (G : Good S CX cls T kws gc k E N sc asg X) {n : Str} {id : String} {b : Bl} {f : Expr} {es es' : List Expr} {kw : List Keyword} {pos : Pos} {as : Slim.E} (ia : Snd S CX cls T kws gc k N as)
    (h : twoB sc n f es kw = some es') (hA : chkA N gc kws as sc es' = true) (hc : CallR X (.builtin id) (rBl (blt b))) (hv : bootBuiltins n = some (.builtin id)) (hn : n ∈ bltNames) : PE X (.Call f es kw pos) (tE S T cls E (.blt b as)) := by
  obtain ⟨e, e2, rfl, rfl, rfl, hg, s1, s2⟩ := two_inv h
  obtain ⟨p, rfl, h1, h2, h3⟩ := glName_of hg
  exact PE.by (pe_callB hc (G.gl h1) (G.blt n hn) hv (ia.pa G _ hA) h3 h2 (star_cons s1) (back1 (star_cons s2) rfl)) fun σ H Q z => blt_read z
theorem isaR (t : Ty) : ∃ id, bootBuiltins (tyN t) = some (.type id) ∧ tyN t ∈ bltNames ∧ CallR X (.builtin "isinstance") (rIsa id (isaD t)) := by
  cases t with
  | int => exact ⟨_, PyProof.Rows.boot_int, by decide +kernel, b_isint⟩
  | bool => exact ⟨_, PyProof.Rows.boot_bool, by decide +kernel, b_isbool⟩
  | tuple => exact ⟨_, PyProof.Rows.boot_tuple, by decide +kernel, b_istup⟩
  | str => exact ⟨_, PyProof.Rows.boot_str, by decide +kernel, b_isstr⟩
theorem snd_isa (t : Ty) {a : Slim.E} (ia : Snd S CX cls T kws gc k N a) : Snd S CX cls T kws gc k N (.isa t a) := by
  refine Snd.val (fun _ _ => rfl) (fun _ _ => rfl) (fun _ _ _ => rfl) (fun sc e h env => ?_) fun {E sc asg X} G e h => ?_
  · simp only [chk] at h
    split at h
    · exact fun _ => rfl
    · cases h
  · simp only [chk] at h
    split at h
    · simp only [Bool.and_eq_true] at h
      obtain ⟨⟨⟨hf, hs⟩, hc⟩, hy⟩ := h
      obtain ⟨p, rfl, h1, h2, h3⟩ := glName_of hf
      obtain ⟨p', rfl, h4, h5, h6⟩ := glName_of hy
      obtain ⟨id, hv, hn, hr⟩ := isaR (X := X) t
      have pt : PE X (.Name (tyN t) p') (tC (.ty id)) := pe_bltn (G.gl h4) (G.blt _ hn) hv rfl h6 h5
      refine PE.by (pe_callB hr (G.gl h1) (G.blt _ (by decide +kernel)) PyProof.Rows.boot_isinstance (pa_cons (ia.pe G _ hc) (pa_cons pt pa_nil rfl) (star_cons hs)) h3 h2 (star_cons hs) rfl) fun σ H Q z => ?_
      obtain ⟨j, B, τ, g, er, q⟩ := z
      simp only [ev] at q
      refine ⟨j, B, τ, g, er, q.split fun d g1 v H1 _ k1 r1 o1 p1 => ?_⟩
      exact ⟨B, v, d, rfl, r1, p1 _ H1 k1 (.bl _) o1⟩
    · cases h
theorem dfl_pe (G : Good S CX cls T kws gc k E N sc asg X) {n : Str} {id : String} {b : Bl} {d0 : D} {fd : D → D → Option D} {f : Expr} {es es' : List Expr} {kw : List Keyword} {pos : Pos} {as : Slim.E} (ia : Snd S CX cls T kws gc k N as)
    (h : dflB sc n d0 f es kw = some es') (hA : chkA N gc kws as sc es' = true) (hb : blt b = un (fd d0)) (hv : bootBuiltins n = some (.builtin id)) (hn : n ∈ bltNames)
    (rule : ∀ {pins : List (Addr × Obj)} {σ : L2.St} {H : Hp} {s : Shared} {x v0 : V} {B : Addr → Prop} {d1 d : D} {u w0 : Value} {Q : VK}, Inv X pins σ H s → RelV x u → RelV v0 w0 → Rep B H x d1 → Rep B H v0 d0 → fd d0 d1 = some d →
      (∀ v H', Kp All H H' → Rep B H' v d → Q v H') → wpAny (model X.prog X.w) X.A (call (.builtin id) [u] [(Str.ofString "default", w0)]) (EP X pins σ Q) X.xe s) :
    PE X (.Call f es kw pos) (tE S T cls E (.blt b as)) := by
  unfold dflB at h
  split at h
  · split at h
    · rename_i e m c k1 p1 p2 hq
      cases h
      simp only [Bool.and_eq_true, decide_eq_true_eq] at hq
      obtain ⟨⟨⟨hf, hs⟩, rfl⟩, hl⟩ := hq
      obtain ⟨p, rfl, h1, h2, h3⟩ := glName_of hf
      refine ⟨fun pins s σ H Q I z => wpAny_Call_Name_kw (ld_blt I (G.gl h1) (G.blt n hn) hv ?_ h3 h2)⟩
      have z2 := blt_read z
      refine PyProof.Rows.callWith_kw (thn ((ia.pa G _ hA).run pos pins s σ H _ I z2) ?_) (by rw [star_cons hs]; unfold backTo; rfl) (back1 (star_cons hs) rfl)
      rintro us s1 ⟨vs, H1, I1, r1, B, ds, d, dm, rr, e1, q⟩
      rw [hb] at e1
      obtain ⟨d1, rfl, e1⟩ := un_inv e1
      obtain ⟨x, rfl, rx⟩ := Rep.one rr
      obtain ⟨u, rfl, ru⟩ := vals1 r1
      refine thn ((pk_cons (nm := some "default") (kpos := p2) (lit_ok (X := X) (j := k1) (pos := p1) hl) pk_nil).run pos pins s1 σ H1 (fun ws H2 => H2 = H1 ∧ ∃ w0, ws = [w0] ∧ Rep All H1 w0 d0) I1 (fun v rv => ⟨rfl, v, rfl, rv⟩)) ?_
      rintro us s2 ⟨zs, H2, I2, r2, rfl, w0, rfl, rw⟩
      obtain ⟨u2, rfl, ru2⟩ := vals1 r2
      exact rule I2 ru ru2 rx (lit_rep hl rw) e1 q
    · cases h
  · cases h
theorem snd_blt (b : Bl) {as : Slim.E} (ia : Snd S CX cls T kws gc k N as) : Snd S CX cls T kws gc k N (.blt b as) := by
  refine Snd.val (fun _ _ => rfl) (fun _ _ => rfl) (fun _ _ _ => rfl) (fun sc e h env => ?_) fun {E sc asg X} G e h => ?_
  · simp only [chk] at h
    split at h
    · exact fun _ => rfl
    · cases h
  · simp only [chk] at h
    split at h
    · split at h
      · rename_i es' hb
        have hu := G.hu
        have hc := G.calm
        cases b <;> simp only [bltB] at hb
        case len => exact one_pe G ia hb h (CallR.un b_len) PySem.boot_len (by decide +kernel)
        case sum => exact one_pe G ia hb h (CallR.un (b_sum hc)) PyProof.Rows.boot_sum (by decide +kernel)
        case abs => exact one_pe G ia hb h (CallR.un b_abs) PyProof.Rows.boot_abs (by decide +kernel)
        case int => exact one_peT G ia hb h (CallR.un b_int) PyProof.Rows.boot_int (by decide +kernel)
        case repr => exact one_pe G ia hb h (CallR.un (b_repr G.gd hu)) PyProof.Rows.boot_repr (by decide +kernel)
        case all => exact one_pe G ia hb h (CallR.un (b_all hc)) PyProof.Rows.boot_all (by decide +kernel)
        case any => exact one_pe G ia hb h (CallR.un (b_any hc)) PyProof.Rows.boot_any (by decide +kernel)
        case max2 => exact two_pe G ia hb h (CallR.bi (b_max2 hc)) PyProof.Rows.boot_max (by decide +kernel)
        case min2 => exact two_pe G ia hb h (CallR.bi (b_min2 hc)) PyProof.Rows.boot_min (by decide +kernel)
        case max1 => exact one_pe G ia hb h (CallR.un (b_max1 hc hu)) PyProof.Rows.boot_max (by decide +kernel)
        case min1 => exact one_pe G ia hb h (CallR.un (b_min1 hc hu)) PyProof.Rows.boot_min (by decide +kernel)
        case sorted => exact one_pe G ia hb h (CallR.un b_sort) PyProof.Rows.boot_sorted (by decide +kernel)
        case tuple => exact one_peT G ia hb h (CallR.un b_tup) PyProof.Rows.boot_tuple (by decide +kernel)
        case list => exact one_peT G ia hb h (CallR.un b_lst) PyProof.Rows.boot_list (by decide +kernel)
        case maxd d => exact dfl_pe (fd := maxdD) G ia hb h rfl PyProof.Rows.boot_max (by decide +kernel) fun I ru rv hx hv e q => b_maxd hc hu I ru rv hx hv e q
        case mind d => exact dfl_pe (fd := mindD) G ia hb h rfl PyProof.Rows.boot_min (by decide +kernel) fun I ru rv hx hv e q => b_mind hc hu I ru rv hx hv e q
        case gcd =>
          split at hb
          · rename_i hg
            obtain ⟨e, e2, rfl, rfl, rfl, hf, s1, s2⟩ := two_inv hb
            obtain ⟨p, rfl, h1, h2, h3⟩ := glName_of hf
            exact PE.by (pe_callBfun (CallR.bi b_gcd) (G.gl h1) (G.gcd hg) (ia.pa G _ h) h2 (star_cons s1) (back1 (star_cons s2) rfl)) fun σ H Q z => blt_read z
          · cases hb
      · cases h
    · cases h
end
end Slim

set_option Elab.async false
set_option linter.all false
set_option maxRecDepth 100000
set_option maxHeartbeats 4000000
/-! SLIM 12: calls of the text's own defs, ranges, targets, comprehensions. -/
namespace Slim
open PySem PySem.Spec PyProof.Rows L2
section
variable {S : GS} {CX : CXT} {cls : Cls} {T : Tab S} {kws : Str → List (List Str × List Nat)} {gc : Bool} {k : Nat} {E : XK} {N : List Str} {sc : Scope} {asg : Str → Bool} {X : Cx}
theorem glB_of {x : Str} (h : glB sc x = true) : sc.names.lookup x = some .globalImplicit ∧ (x == ("__debug__" : Str)) = false := by
  unfold glB at h
  simp only [Bool.and_eq_true, decide_eq_true_eq, Bool.not_eq_true'] at h
  exact ⟨h.1.1, h.1.2⟩

/-- f(e, ..) with any number of arguments -/
theorem pe_callN {CX : CXT} {k : Nat} {f : Addr} {fd : FuncData} {ps : List Str} {sp : Sp} {E : XK} {x : Str} {p pos : Pos} {es : List Expr} {t : TA} (F : FnG X.prog X.w X.K X.mg X.base CX k f fd ps sp) (gd : X.A.guards = some []) (room : Room k X.A) (hg : Gl X x) (hm : X.mg x = some (.ref f))
    (hk : PySem.W.keepIn X.K (.ref f) = true) (hb : Binds X.K fd ps []) (hx : Passes CX X E) (ha : PA X es t) (hdb : (x == ("__debug__" : Str)) = false) (hs : ∀ e r, es = e :: r → starEach es X.env = (false, eval e X.env) :: starEach r X.env ∧ (backTo pos (starEach r X.env)).any (·.1) = false)
    (h0 : es = [] → ∀ σ H Q, t σ H Q → Q [] H) : PE X (.Call (.Name x p) es [] pos) (tCall sp [] E t) := by
  cases es with
  | nil => exact PE.by (pe_call0G F gd room hg hm hk hb hx hdb) fun σ H Q z => h0 rfl σ H _ z
  | cons e r =>
    obtain ⟨s1, s2⟩ := hs e r rfl
    exact pe_callG F gd room hg hm hk hb hx ha hdb s1 s2
theorem snd_call (f : Str) (dk : Option Nat) {as : Slim.E} (ia : Snd S CX cls T kws gc k N as) : Snd S CX cls T kws gc k N (.call f dk as) := by
  refine Snd.val (fun _ _ => rfl) (fun _ _ => rfl) (fun _ _ _ => rfl) (fun sc e h env => ?_) fun {E sc asg X} G e h => ?_
  · simp only [chk] at h
    split at h
    · exact fun _ => rfl
    · cases h
  · simp only [chk] at h
    split at h
    · simp only [Bool.and_eq_true, decide_eq_true_eq] at h
      obtain ⟨⟨rfl, hgl⟩, h⟩ := h
      rename_i x p es pos
      obtain ⟨hg, hdb⟩ := glB_of hgl
      cases hT : T x with
      | none =>
        refine PE.by PE.no fun σ H Q z => ?_
        obtain ⟨j, B, τ, g, er, q⟩ := z
        simp only [ev, hT] at q
        exact q
      | some F =>
        obtain ⟨a, fd, ps, hm, hk, hps, FG, hb, _⟩ := G.tab x F hT
        cases dk with
        | none =>
          refine PE.by (pe_callN FG G.gd G.room (G.gl hg) hm hk hb G.pass (ia.pa G _ h) hdb (fun e r he => ?_) (fun he σ H Q z => ?_)) fun σ H Q z => ?_
          · subst he
            cases as <;> first | (simp [chkA] at h; done) | skip
            simp only [chkA, Bool.and_eq_true] at h
            exact ⟨star_cons h.1.1, chkA_plain h.2⟩
          · subst he
            have := chkA_end h
            subst this
            obtain ⟨j, B, τ, g, er, q⟩ := z
            simp only [evs] at q
            exact q [] H Kp.refl .nil er.ok
          · obtain ⟨j, B, τ, g, er, q⟩ := z
            simp only [ev, hT, Option.isSome] at q
            split at q
            · rename_i hd
              refine ⟨j, B, τ, g, er, q.split fun ds g1 vs H1 _ k1 r1 o1 p1 => ?_⟩
              split at p1
              · rename_i hn
                refine ⟨j, B, vs, ds, g1, ?_, by rw [r1.length]; exact hn, o1, er.sub, er.dom' k1 o1, r1, (er.step k1 o1).zs, p1.later k1⟩
                rw [hd, if_neg Bool.false_ne_true, List.append_nil]
              · exact p1.elim
            · exact q.elim
        | some j0 =>
          cases es with
          | nil => simp at h
          | cons e r =>
            cases e <;> first | (simp at h; done) | skip
            rename_i y py
            simp only [Bool.and_eq_true] at h
            have hv := G.var (pos := py) h.1
            refine PE.by (pe_callG FG G.gd G.room (G.gl hg) hm hk hb G.pass (pa_cons hv (ia.pa G _ h.2) rfl) hdb rfl (chkA_plain h.2)) fun σ H Q z => ?_
            obtain ⟨j, B, τ, g, er, q⟩ := z
            simp only [ev, hT, Option.isSome] at q
            split at q
            · rename_i hd
              split at q
              · rename_i hj
                refine ⟨S.val j, er.dk j0 hj, j, B, τ, g, er, q.split fun ds g1 vs H1 _ k1 r1 o1 p1 => ?_⟩
                split at p1
                · rename_i hn
                  refine ⟨j, B, vs, ds, g1, ?_, by rw [r1.length]; exact hn, o1, er.sub, er.dom' k1 o1, r1, (er.step k1 o1).zs, p1.later k1⟩
                  rw [hd, if_pos rfl, List.append_nil]
                · exact p1.elim
              · exact q.elim
            · exact q.elim
    · cases h
theorem kw_names {env : Env} {pos : Pos} : ∀ {kw : List Keyword} {ks : List Str}, kw.map (·.arg) = ks.map some → (backToKw pos (keywordEach kw env)).filterMap (·.1) = ks ∧ (backToKw pos (keywordEach kw env)).all (·.1.isSome) = true ∧ (backToKw pos (keywordEach kw env)).any (·.1.isNone) = false
  | [], [], _ => ⟨rfl, rfl, rfl⟩
  | [], _ :: _, h => by simp at h
  | _ :: _, [], h => by simp at h
  | ⟨nm, e, p⟩ :: kw, x :: ks, h => by
    simp only [List.map_cons, List.cons.injEq] at h
    obtain ⟨rfl, h⟩ := h
    obtain ⟨h1, h2, h3⟩ := kw_names (env := env) (pos := pos) h
    refine ⟨?_, ?_, ?_⟩
    · show List.filterMap (·.1) ((some x, _) :: backToKw pos (keywordEach kw env)) = _
      rw [List.filterMap_cons_some (f := fun q : Option Str × Sem Value => q.1) rfl, h1]
    · show List.all ((some x, _) :: backToKw pos (keywordEach kw env)) _ = _
      rw [List.all_cons, h2]; rfl
    · show List.any ((some x, _) :: backToKw pos (keywordEach kw env)) _ = _
      rw [List.any_cons, h3]; rfl
theorem perm_rep {B : Addr → Prop} {H : Hp} {vs : List V} {ds : List D} {us : List Value} (r : RepAll B H vs ds) (q : Vals vs us) : ∀ perm : List Nat, (∀ i ∈ perm, i < ds.length) →
    Vals (perm.map fun i => vs.getD i .non) (perm.map fun i => us.getD i .none) ∧ RepAll B H (perm.map fun i => vs.getD i .non) (permL perm ds)
  | [], _ => ⟨.nil, .nil⟩
  | i :: perm, h => by
    obtain ⟨h1, h2⟩ := perm_rep r q perm fun j hj => h j (List.mem_cons_of_mem _ hj)
    have hi := h i List.mem_cons_self
    have hv : i < vs.length := by rw [r.length]; exact hi
    have hu : i < us.length := by rw [← q.length]; exact hv
    obtain ⟨v, e1, r1⟩ := r.get (List.getElem?_eq_getElem hi)
    obtain ⟨u, e2, r2⟩ := q.get e1
    have g1 : vs.getD i .non = v := by rw [List.getD_eq_getElem?_getD, e1]; rfl
    have g2 : us.getD i .none = u := by rw [List.getD_eq_getElem?_getD, e2]; rfl
    have g3 : ds.getD i .none = ds[i] := by rw [List.getD_eq_getElem?_getD, List.getElem?_eq_getElem hi]; rfl
    refine ⟨?_, ?_⟩
    · rw [List.map_cons, List.map_cons, g1, g2]; exact .cons r2 h1
    · unfold permL
      rw [List.map_cons, List.map_cons, g1, g3]; exact .cons r1 h2
theorem snd_callk (f : Str) (ks : List Str) (perm : List Nat) {as : Slim.E} (ia : Snd S CX cls T kws gc k N as) : Snd S CX cls T kws gc k N (.callk f ks perm as) := by
  refine Snd.val (fun _ _ => rfl) (fun _ _ => rfl) (fun _ _ _ => rfl) (fun sc e h env => ?_) fun {E sc asg X} G e h => ?_
  · simp only [chk] at h
    split at h
    · exact fun _ => rfl
    · cases h
  · simp only [chk] at h
    split at h
    · simp only [Bool.and_eq_true, decide_eq_true_eq] at h
      obtain ⟨⟨⟨⟨⟨hxf, hgl⟩, hks⟩, hkw⟩, h⟩, hpm⟩ := h
      rename_i x p kw pos
      subst hxf
      obtain ⟨hg, hdb⟩ := glB_of hgl
      cases hT : T x with
      | none =>
        refine PE.by PE.no fun σ H Q z => ?_
        obtain ⟨j, B, τ, g, er, q⟩ := z
        simp only [ev, hT] at q
        exact q
      | some F =>
        obtain ⟨a, fd, ps, hm, hk, hps, FG, hb, hkws⟩ := G.tab x F hT
        obtain ⟨l1, l2, kb⟩ := hkws ks perm hkw
        obtain ⟨n1, n2, n3⟩ := kw_names (env := X.env) (pos := pos) hks
        refine ⟨fun pins s σ H Q I z => wpAny_Call_Name_kw (ld_glob I (G.gl hg) hm ?_ hdb)⟩
        obtain ⟨j, B, τ, g, er, q⟩ := z
        simp only [ev, hT] at q
        split at q
        · rename_i hd
          refine PySem.W.callWith_KW0 (h₀ := X.base) I.ok.mod.kin hk n2 ?_ (by rw [n3]; rfl)
          refine thn ((ia.pk G kw h).run pos pins s σ H (fun vs H1 => ∃ B' ds' g1, Dom B' H1 ∧ (∀ a, S.bad j a → B' a) ∧ S.ok j g1 H1 ∧ RepAll B' H1 vs ds' ∧ ds'.length = F.n ∧ (∀ x a d, S.cs x = some (a, d) → Rep B' H1 (.ref a) d) ∧ Post S cls j B' H1 (Rep B') Q E (F.f (permL perm ds') g1)) I
            ⟨j, B, τ, g, er, q.split fun ds g1 vs H1 _ k1 r1 o1 p1 => ?_⟩) ?_
          · split at p1
            · rename_i hn
              exact ⟨B, ds, g1, er.dom' k1 o1, er.sub, o1, r1, hn.1, (er.step k1 o1).zs, p1.later k1⟩
            · exact p1.elim
          · rintro us s2 ⟨vs, H1, I1, r1, B', ds, g1, dm, sub, o1, rr, hn, zz, p1⟩
            refine ⟨I1.kIn, wp_code ?_⟩
            rw [n1]
            have hp : ∀ i ∈ perm, i < ds.length := fun i hi => by
              have := List.all_eq_true.mp hpm i hi
              rw [hn, ← l1]
              simpa using this
            obtain ⟨v1, v2⟩ := perm_rep rr r1 perm hp
            exact run_gen FG G.gd G.room (kb s2 us I1.kIn (by rw [l1, ← r1.length, rr.length, hn])) G.pass I1 v1 ⟨j, B', _, _, g1, by rw [hd, if_neg Bool.false_ne_true], by rw [List.length_map, l2], o1, sub, dm, v2, zz, p1⟩
        · exact q.elim
    · cases h
theorem snd_glob (x : Str) : Snd S CX cls T kws gc k N (.glob x) := by
  have pe : ∀ {E sc asg X}, Good S CX cls T kws gc k E N sc asg X → ∀ e, chk N gc kws (.glob x) sc e = true → PE X e (tE S T cls E (.glob x)) := fun {E sc asg X} G e h => by
    simp only [chk] at h
    split at h
    · simp only [Bool.and_eq_true, decide_eq_true_eq] at h
      obtain ⟨rfl, hg⟩ := h
      obtain ⟨g1, g2⟩ := glB_of hg
      cases ec : S.cs ‹_› with
      | none =>
        refine ⟨fun pins s σ H Q I z => ?_⟩
        obtain ⟨j, B, τ, g, er, p⟩ := z
        simp only [ev, ec] at p
        exact p.elim
      | some q =>
        obtain ⟨a, d⟩ := q
        refine PE.by (pe_glob (v := .ref a) (u := .ref a) (G.gl g1) (G.cst _ a d ec) rfl g2) fun σ H Q z => ?_
        obtain ⟨j, B, τ, g, er, p⟩ := z
        simp only [ev, ec] at p
        exact p (.ref a) H Kp.refl (er.zs _ a d ec) er.ok
    · cases h
  refine Snd.expr (fun _ _ => rfl) (fun _ _ => rfl) (fun _ _ _ => rfl) pe fun {E sc asg X} G e h => ?_
  have h' := h
  simp only [chk] at h
  split at h
  · exact tT_truth (pe G _ h') fun _ => rfl
  · cases h
end
end Slim

set_option Elab.async false
set_option linter.all false
set_option maxRecDepth 100000
set_option maxHeartbeats 4000000
/-! SLIM 13: ranges, targets, comprehensions. -/
namespace Slim
open PySem PySem.Spec PyProof.Rows L2
section
variable {S : GS} {CX : CXT} {cls : Cls} {T : Tab S} {kws : Str → List (List Str × List Nat)} {gc : Bool} {k : Nat} {E : XK} {N : List Str} {sc : Scope} {asg : Str → Bool} {X : Cx}

/-- a source of a loop -/
theorem Snd.src {m : Slim.E} (he : ∀ sc e, chk N gc kws m sc e = false) (ha : ∀ sc es, chkA N gc kws m sc es = false) (ho : ∀ sc e, chkO N gc kws m sc e = false)
    (pi : ∀ {E sc asg X}, Good S CX cls T kws gc k E N sc asg X → ∀ tg e, chkI N gc kws m sc tg e = true → PI X tg e (tI S T cls E m)) : Snd S CX cls T kws gc k N m where
  pe := fun {_ sc _ _} _ e h => by rw [he sc e] at h; cases h
  pt := fun {_ sc _ _} _ e h => by rw [he sc e] at h; cases h
  pa := fun {_ sc _ _} _ es h => by rw [ha sc es] at h; cases h
  pb := fun {_ sc _ _} _ _ es _ _ h => by rw [ha sc es] at h; cases h
  pw := fun {_ sc _ _} _ _ es _ _ h => by rw [ha sc es] at h; cases h
  pk := fun {_ sc _ _} _ kw h => by rw [ha sc _] at h; cases h
  po := fun {_ sc _ _} _ e h => by rw [ho sc e] at h; cases h
  pi := pi
theorem wk_range {B : Addr → Prop} {H : Hp} (lo : Int) (n : Nat) : Wk B H (Itr lo n) ((List.range n).map fun i => .int (lo + (i : Nat))) := by
  refine ⟨fun _ _ => False, fun _ _ z => z.elim, fun B' H' _ _ => ?_⟩
  rw [List.length_map, List.length_range]
  refine ⟨Nat.le_refl _, fun i hi => ⟨hi, ?_⟩⟩
  rintro x H'' ⟨rfl, rfl⟩
  refine ⟨.int (lo + (i : Nat)), ?_, Kp.refl, .int _⟩
  rw [List.getElem?_map, List.getElem?_range hi]
  rfl
theorem snd_rng1 {a : Slim.E} (ia : Snd S CX cls T kws gc k N a) : Snd S CX cls T kws gc k N (.rng1 a) := by
  refine Snd.src (fun _ _ => rfl) (fun _ _ => rfl) (fun _ _ => rfl) fun {E sc asg X} G tg e h => ?_
  simp only [chkI] at h
  split at h
  · simp only [Bool.and_eq_true] at h
    obtain ⟨⟨hf, hs⟩, hc⟩ := h
    obtain ⟨p, rfl, h1, h2, h3⟩ := glName_of hf
    refine PI.by (pi_range1 (G.gl h1) (G.blt _ (by decide +kernel)) (pa_cons (ia.pe G _ hc) pa_nil (star_cons hs)) (star_cons hs)) fun σ H R z => ?_
    obtain ⟨j, B, τ, g, er, q⟩ := z
    simp only [evi] at q
    refine ⟨j, B, τ, g, er, q.split fun d g1 v H1 _ k1 r1 o1 p1 => ?_⟩
    cases d with
    | int n =>
      cases r1.intAt
      simp only at p1
      split at p1
      · rename_i hl
        unfold lim at hl
        refine ⟨n, rfl, by omega, by omega, p1 _ H1 k1 ?_ o1⟩
        have := wk_range (B := wkB (.rng1 a) B) (H := H1) 0 n.toNat
        simpa using this
      · exact p1.elim
    | _ => exact p1.elim
  · cases h
theorem snd_rng2 {a b : Slim.E} (ia : Snd S CX cls T kws gc k N a) (ib : Snd S CX cls T kws gc k N b) : Snd S CX cls T kws gc k N (.rng2 a b) := by
  refine Snd.src (fun _ _ => rfl) (fun _ _ => rfl) (fun _ _ => rfl) fun {E sc asg X} G tg e h => ?_
  simp only [chkI] at h
  split at h
  · simp only [Bool.and_eq_true] at h
    obtain ⟨⟨⟨⟨hf, hs⟩, hs2⟩, hc⟩, hc2⟩ := h
    obtain ⟨p, rfl, h1, h2, h3⟩ := glName_of hf
    refine PI.by (pi_range2 (G.gl h1) (G.blt _ (by decide +kernel)) (pa_cons (ia.pe G _ hc) (pa_cons (ib.pe G _ hc2) pa_nil (star_cons hs2)) (star_cons hs)) (by rw [star_cons hs, star_cons hs2]; rfl) (star_cons hs2)) fun σ H R z => ?_
    obtain ⟨j, B, τ, g, er, q⟩ := z
    simp only [evi] at q
    refine ⟨j, B, τ, g, er, q.split fun d g1 v H1 _ k1 r1 o1 p1 => ?_⟩
    have er1 := er.step k1 o1
    refine ⟨j, B, τ, g1, er1, (p1.later k1).split fun d2 g2 w H2 _ k2 r2 o2 p2 => ?_⟩
    cases d with
    | int m =>
      cases d2 with
      | int n =>
        cases r1.intAt; cases r2.intAt
        simp only at p2
        split at p2
        · rename_i hl
          unfold lim at hl
          refine ⟨m, n, rfl, ⟨by omega, by omega, by omega, by omega⟩, p2 _ H2 k2 (wk_range m (n - m).toNat) o2⟩
        · exact p2.elim
      | _ => exact p2.elim
    | _ => exact p2.elim
  · cases h

/-! ### targets -/
section
variable (B : Addr → Prop) (H : Hp)
mutual

/-- the slots behind a store of the datum -/
def BR : Tg → D → L2.St → L2.St → Prop
  | .nm i, d, σ, σ' => ∃ v, Rep B H v d ∧ σ' = σ.set i (some v)
  | .tp ts, .tuple ds, σ, σ' => BRs ts ds σ σ'
  | _, _, _, _ => False
def BRs : Tg → List D → L2.St → L2.St → Prop
  | .nil, [], σ, σ' => σ' = σ
  | .cons t ts, d :: ds, σ, σ' => ∃ σ1, BR t d σ σ1 ∧ BRs ts ds σ1 σ'
  | _, _, _, _ => False
end
end
def gT (t : Tg) : TG := fun v σ H Q => ∃ B d, Rep B H v d ∧ fitT t d = true ∧ ∀ σ', BR B H t d σ σ' → Q σ' H
def gTs (t : Tg) : TGs := fun vs σ H Q => ∃ B ds, RepAll B H vs ds ∧ fitTs t ds = true ∧ ∀ σ', BRs B H t ds σ σ' → Q σ' H
theorem PG.by {X : Cx} {e : Expr} {t t' : TG} (h : PG X e t) (i : ∀ v σ H Q, t' v σ H Q → t v σ H Q) : PG X e t' := ⟨fun pins s σ H v u Q I r z => h.run pins s σ H v u Q I r (i v σ H Q z)⟩
theorem PGs.by {X : Cx} {e : List Expr} {t t' : TGs} (h : PGs X e t) (i : ∀ v σ H Q, t' v σ H Q → t v σ H Q) : PGs X e t' := ⟨fun pins s σ H v u Q I r z => h.run pins s σ H v u Q I r (i v σ H Q z)⟩
theorem assign_cons {e : Expr} {es : List Expr} {env : Env} (h : noStar e = true) : assignEach (e :: es) env = (false, assign e env) :: assignEach es env := by
  cases e <;> first | (simp only [noStar, reduceCtorEq] at h; done) | rfl
theorem find_back {env : Env} : ∀ {t : Tg} {es : List Expr}, chkTs N asg t es = true → (assignEach es env).findIdx? (·.1) = none ∧ (assignEach es env).length = es.length
  | .nil, [], _ => ⟨rfl, rfl⟩
  | .nil, _ :: _, h => by simp [chkTs] at h
  | .nm _, _, h => by simp [chkTs] at h
  | .tp _, _, h => by simp [chkTs] at h
  | .cons _ _, [], h => by simp [chkTs] at h
  | .cons t ts, e :: es, h => by
    simp only [chkTs, Bool.and_eq_true] at h
    obtain ⟨h1, h2⟩ := find_back (env := env) h.2
    rw [assign_cons h.1.1]
    refine ⟨?_, by rw [List.length_cons, h2, List.length_cons]⟩
    rw [List.findIdx?_cons, h1]
    rfl
theorem fit_len : ∀ {t : Tg} {es : List Expr} {ds : List D}, chkTs N asg t es = true → fitTs t ds = true → ds.length = es.length
  | .nil, [], [], _, _ => rfl
  | .nil, [], _ :: _, _, h => by simp [fitTs] at h
  | .nil, _ :: _, _, h, _ => by simp [chkTs] at h
  | .nm _, _, _, h, _ => by simp [chkTs] at h
  | .tp _, _, _, h, _ => by simp [chkTs] at h
  | .cons _ _, [], _, h, _ => by simp [chkTs] at h
  | .cons _ _, _ :: _, [], _, h => by simp [fitTs] at h
  | .cons t ts, e :: es, d :: ds, h, h' => by
    simp only [chkTs, Bool.and_eq_true] at h
    simp only [fitTs, Bool.and_eq_true] at h'
    rw [List.length_cons, List.length_cons, fit_len h.2 h'.2]
mutual
theorem pg_ok (G : Good S CX cls T kws gc k E N sc asg X) : ∀ (t : Tg) (e : Expr), chkT N asg t e = true → PG X e (gT t)
  | .nm i, e, h => by
    cases e <;> simp only [chkT, Bool.false_eq_true] at h
    rename_i x p
    simp only [Bool.and_eq_true, decide_eq_true_eq] at h
    obtain ⟨h1, h2⟩ := G.asg x h.2
    refine PG.by (pg_name (i := i) (by rw [G.hN]; exact G.nd) (by rw [G.hN]; exact h.1) h1 h2) fun v σ H Q z => ?_
    obtain ⟨B, d, r, _, q⟩ := z
    exact q _ ⟨v, r, rfl⟩
  | .tp ts, e, h => by
    cases e <;> simp only [chkT, Bool.false_eq_true] at h
    rename_i es q p
    obtain ⟨f1, f2⟩ := find_back (env := X.env) h
    refine PG.by (pg_tup G.calm (pgs_ok G ts es h) f2 f1) fun v σ H Q z => ?_
    obtain ⟨B, d, r, hf, q⟩ := z
    cases d <;> simp only [fitT, Bool.false_eq_true] at hf
    obtain ⟨a, xs, rfl, _, ha, ra⟩ := r.tupAt
    exact ⟨a, xs, rfl, .inl ha, by rw [ra.length, fit_len h hf], B, _, ra, hf, q⟩
  | .nil, e, h => by simp [chkT] at h
  | .cons _ _, e, h => by simp [chkT] at h
theorem pgs_ok (G : Good S CX cls T kws gc k E N sc asg X) : ∀ (t : Tg) (es : List Expr), chkTs N asg t es = true → PGs X es (gTs t)
  | .nil, [], _ => PGs.by pgs_nil fun vs σ H Q z => by
    obtain ⟨B, ds, r, hf, q⟩ := z
    cases ds with
    | nil => cases r; exact ⟨rfl, q σ rfl⟩
    | cons _ _ => simp [fitTs] at hf
  | .nil, _ :: _, h => by simp [chkTs] at h
  | .nm _, _, h => by simp [chkTs] at h
  | .tp _, _, h => by simp [chkTs] at h
  | .cons _ _, [], h => by simp [chkTs] at h
  | .cons t ts, e :: es, h => by
    simp only [chkTs, Bool.and_eq_true] at h
    refine PGs.by (pgs_cons (pg_ok G t e h.1.2) (pgs_ok G ts es h.2) (by rw [assign_cons h.1.1]; rfl)) fun vs σ H Q z => ?_
    obtain ⟨B, ds, r, hf, q⟩ := z
    cases ds with
    | nil => simp [fitTs] at hf
    | cons d ds =>
      simp only [fitTs, Bool.and_eq_true] at hf
      cases r with
      | cons r1 r2 => exact ⟨_, _, rfl, B, d, r1, hf.1, fun σ1 b1 => ⟨B, ds, r2, hf.2, fun σ2 b2 => q σ2 ⟨σ1, b1, b2⟩⟩⟩
end

/-- what a store does to the slots' data -/
theorem getD_set {τ : Sl} {i j : Nat} {sv : SV} : getD (τ.set i sv) j = if i = j ∧ j < τ.length then (match sv with
    | .dat d => some d
    | .own ds => some (.list ds)
    | _ => none) else getD τ j := by
  unfold getD
  by_cases h : i = j
  · subst h
    by_cases hl : i < τ.length
    · rw [if_pos ⟨rfl, hl⟩, List.getElem?_set_self hl]
      cases sv <;> rfl
    · rw [if_neg fun z => hl z.2, List.getElem?_eq_none (by simpa using Nat.not_lt.mp hl), List.getElem?_eq_none (by simpa using Nat.not_lt.mp hl)]
  · rw [if_neg fun z => h z.1, List.getElem?_set_ne h]
theorem ER.put {i : S.I} {B : Addr → Prop} {τ : Sl} {g : S.G} {σ : L2.St} {H : Hp} (er : ER S i B τ g σ H) {j : Nat} {v : V} {d : D} (r : Rep B H v d) : ER S i B (τ.set j (.dat d)) g (σ.set j (some v)) H := by
  refine ⟨er.ok, er.sub, er.dom, fun n d' h => ?_, fun n h => ?_, by rw [List.length_set, List.length_set, er.len], er.zs⟩
  · rw [getD_set] at h
    split at h
    · rename_i hn
      obtain ⟨rfl, hl⟩ := hn
      cases h
      exact ⟨v, by rw [List.getElem?_set_self (by rw [← er.len]; exact hl)], r⟩
    · rename_i hn
      obtain ⟨w, h1, h2⟩ := er.sl n d' h
      refine ⟨w, ?_, h2⟩
      by_cases e : j = n
      · subst e
        exfalso
        apply hn
        refine ⟨rfl, ?_⟩
        rw [er.len]
        exact (List.getElem?_eq_some_iff.mp h1).1
      · rw [List.getElem?_set_ne e]; exact h1
  · by_cases e : j = n
    · subst e
      by_cases hl : j < τ.length
      · rw [List.getElem?_set_self hl] at h; cases h
      · rw [List.getElem?_eq_none (by simpa using Nat.not_lt.mp hl)] at h; cases h
    · rw [List.getElem?_set_ne e] at h ⊢
      exact er.dk n h
mutual
theorem ER.bind {i : S.I} {B : Addr → Prop} {g : S.G} {H : Hp} : ∀ {t : Tg} {d : D} {τ : Sl} {σ σ' : L2.St}, ER S i B τ g σ H → BR B H t d σ σ' → ER S i B (setT t d τ) g σ' H
  | .nm j, d, τ, σ, σ', er, b => by
    obtain ⟨v, r, rfl⟩ := b
    exact er.put r
  | .tp ts, .tuple ds, τ, σ, σ', er, b => ER.binds (t := ts) er b
  | .tp _, .none, _, _, _, _, b | .tp _, .bool _, _, _, _, _, b | .tp _, .int _, _, _, _, _, b | .tp _, .str _, _, _, _, _, b | .tp _, .list _, _, _, _, _, b | .tp _, .dict _, _, _, _, _, b => by simp [BR] at b
  | .nil, _, _, _, _, _, b => by simp [BR] at b
  | .cons _ _, _, _, _, _, _, b => by simp [BR] at b
theorem ER.binds {i : S.I} {B : Addr → Prop} {g : S.G} {H : Hp} : ∀ {t : Tg} {ds : List D} {τ : Sl} {σ σ' : L2.St}, ER S i B τ g σ H → BRs B H t ds σ σ' → ER S i B (setTs t ds τ) g σ' H
  | .nil, [], τ, σ, σ', er, b => by
    simp only [BRs] at b
    subst b
    exact er
  | .nil, _ :: _, _, _, _, _, b => by simp [BRs] at b
  | .nm _, _, _, _, _, _, b => by simp [BRs] at b
  | .tp _, _, _, _, _, _, b => by simp [BRs] at b
  | .cons _ _, [], _, _, _, _, b => by simp [BRs] at b
  | .cons t ts, d :: ds, τ, σ, σ', er, b => by
    simp only [BRs] at b
    obtain ⟨σ1, b1, b2⟩ := b
    simp only [setTs]
    exact ER.binds (ER.bind er b1) b2
end
mutual
theorem BR.wipe {B : Addr → Prop} {H : Hp} {vs : List Nat} : ∀ {t : Tg} {d : D} {σ σ' : L2.St}, (∀ i ∈ tgS t, i ∈ vs) → BR B H t d σ σ' → wipe σ' vs = wipe σ vs
  | .nm j, d, σ, σ', hs, b => by
    obtain ⟨v, r, rfl⟩ := b
    have hj : j ∈ vs := hs j (by simp [tgS])
    clear hs
    induction vs with
    | nil => cases hj
    | cons a vs ih =>
      show (L2.wipe (σ.set j (some v)) vs).set a none = (L2.wipe σ vs).set a none
      by_cases hm : j ∈ vs
      · rw [ih hm]
      · have e : j = a := by
          rcases List.mem_cons.mp hj with h | h
          · exact h
          · exact absurd h hm
        subst e
        have key : ∀ (ws : List Nat) (ρ : L2.St), (L2.wipe (ρ.set j (some v)) ws).set j none = (L2.wipe ρ ws).set j none := fun ws => by
          induction ws with
          | nil => intro ρ; exact List.set_set ..
          | cons c ws ih2 =>
            intro ρ
            show ((L2.wipe (ρ.set j (some v)) ws).set c none).set j none = ((L2.wipe ρ ws).set c none).set j none
            by_cases hc : c = j
            · subst hc
              rw [List.set_set, List.set_set, ih2]
            · rw [List.set_comm _ _ hc, List.set_comm _ _ hc, ih2]
        exact key vs σ
  | .tp ts, .tuple ds, σ, σ', hs, b => BRs.wipe (t := ts) (by simpa [tgS] using hs) b
  | .tp _, .none, _, _, _, b | .tp _, .bool _, _, _, _, b | .tp _, .int _, _, _, _, b | .tp _, .str _, _, _, _, b | .tp _, .list _, _, _, _, b | .tp _, .dict _, _, _, _, b => by simp [BR] at b
  | .nil, _, _, _, _, b => by simp [BR] at b
  | .cons _ _, _, _, _, _, b => by simp [BR] at b
theorem BRs.wipe {B : Addr → Prop} {H : Hp} {vs : List Nat} : ∀ {t : Tg} {ds : List D} {σ σ' : L2.St}, (∀ i ∈ tgS t, i ∈ vs) → BRs B H t ds σ σ' → L2.wipe σ' vs = L2.wipe σ vs
  | .nil, [], σ, σ', _, b => by
    simp only [BRs] at b
    rw [b]
  | .nil, _ :: _, _, _, _, b => by simp [BRs] at b
  | .nm _, _, _, _, _, b => by simp [BRs] at b
  | .tp _, _, _, _, _, b => by simp [BRs] at b
  | .cons _ _, [], _, _, _, b => by simp [BRs] at b
  | .cons t ts, d :: ds, σ, σ', hs, b => by
    simp only [BRs] at b
    obtain ⟨σ1, b1, b2⟩ := b
    rw [BRs.wipe (fun i hi => hs i (by simp [tgS, hi])) b2, BR.wipe (fun i hi => hs i (by simp [tgS, hi])) b1]
end
theorem getD_wipe {τ : Sl} {j : Nat} : ∀ {vs : List Nat} {d : D}, getD (wipeS τ vs) j = some d → getD τ j = some d ∧ j ∉ vs
  | [], d, h => ⟨h, by simp⟩
  | a :: vs, d, h => by
    have h' : getD ((wipeS τ vs).set a .un) j = some d := h
    rw [getD_set] at h'
    split at h'
    · cases h'
    · rename_i hn
      obtain ⟨h1, h2⟩ := getD_wipe h'
      refine ⟨h1, fun hm => ?_⟩
      rcases List.mem_cons.mp hm with e | e
      · subst e
        apply hn
        refine ⟨rfl, ?_⟩
        unfold getD at h'
        cases e2 : (wipeS τ vs)[j]? with
        | none => rw [e2] at h'; cases h'
        | some sv => exact (List.getElem?_eq_some_iff.mp e2).1
      · exact h2 e
theorem dk_wipe {τ : Sl} {j : Nat} : ∀ {vs : List Nat}, (wipeS τ vs)[j]? = some SV.dk → τ[j]? = some SV.dk ∧ j ∉ vs
  | [], h => ⟨h, by simp⟩
  | a :: vs, h => by
    have h' : ((wipeS τ vs).set a .un)[j]? = some SV.dk := h
    by_cases e : a = j
    · subst e
      by_cases hl : a < (wipeS τ vs).length
      · rw [List.getElem?_set_self hl] at h'; cases h'
      · rw [List.getElem?_eq_none (by simpa using Nat.not_lt.mp hl)] at h'; cases h'
    · rw [List.getElem?_set_ne e] at h'
      obtain ⟨h1, h2⟩ := dk_wipe h'
      exact ⟨h1, fun hm => by
        rcases List.mem_cons.mp hm with z | z
        · exact e z.symm
        · exact h2 z⟩
theorem wipe_get {σ : L2.St} {j : Nat} : ∀ {vs : List Nat}, j ∉ vs → (L2.wipe σ vs)[j]? = σ[j]?
  | [], _ => rfl
  | a :: vs, h => by
    show ((L2.wipe σ vs).set a none)[j]? = _
    rw [List.getElem?_set_ne (fun e => h (by simp [e])), wipe_get fun z => h (List.mem_cons_of_mem _ z)]
theorem wipeS_length {τ : Sl} : ∀ vs : List Nat, (wipeS τ vs).length = τ.length
  | [] => rfl
  | a :: vs => by
    show ((wipeS τ vs).set a .un).length = _
    rw [List.length_set, wipeS_length vs]
theorem ER.wiped {i : S.I} {B : Addr → Prop} {τ : Sl} {g : S.G} {σ : L2.St} {H : Hp} (er : ER S i B τ g σ H) (vs : List Nat) : ER S i B (wipeS τ vs) g (L2.wipe σ vs) H :=
  ⟨er.ok, er.sub, er.dom, fun j d h => by
    obtain ⟨h1, h2⟩ := getD_wipe h
    obtain ⟨v, h3, h4⟩ := er.sl j d h1
    exact ⟨v, by rw [wipe_get h2]; exact h3, h4⟩, fun j h => by
    obtain ⟨h1, h2⟩ := dk_wipe h
    rw [wipe_get h2]; exact er.dk j h1, by rw [wipeS_length, wipe_length, er.len], er.zs⟩
end
end Slim

set_option Elab.async false
set_option linter.all false
set_option maxRecDepth 100000
set_option maxHeartbeats 4000000
/-! SLIM 13b: the law's own state: a dict of numbers and lists of numbers. -/
namespace Slim
open PySem PySem.Spec PyProof.Rows L2
section
variable {S : GS} {CX : CXT} {cls : Cls} {T : Tab S} {kws : Str → List (List Str × List Nat)} {gc : Bool} {k : Nat} {E : XK} {N : List Str} {sc : Scope} {asg : Str → Bool} {X : Cx}
theorem gB_of {j : Nat} {key : Str} {e : Expr} (h : gB N sc j key e = true) : ∃ x px kk pk pos, e = .Subscript (.Name x px) (.Constant (.str key) kk pk) pos ∧ varB N sc j x = true := by
  unfold gB at h
  split at h
  · simp only [Bool.and_eq_true, decide_eq_true_eq] at h
    obtain ⟨rfl, h⟩ := h
    exact ⟨_, _, _, _, _, rfl, h⟩
  · cases h

/-- deck[key], by its heap -/
def tG (j : Nat) (key : Str) : TE := fun σ H Q => ∃ p kvs v, σ[j]? = some (some (.ref p)) ∧ H p = some (.dK kvs) ∧ valV kvs (.inr key) = some v ∧ Q v H
theorem pe_g (G : Good S CX cls T kws gc k E N sc asg X) {j : Nat} {key : Str} {e : Expr} (h : gB N sc j key e = true) : PE X e (tG j key) := by
  obtain ⟨x, px, kk, pk, pos, rfl, h1⟩ := gB_of h
  refine PE.by (pe_dget (by have := G.hu; omega) (G.var h1) pe_str (fun _ _ => rfl)) fun σ H Q z => ?_
  obtain ⟨p, kvs, v, h1, h2, h3, q⟩ := z
  exact ⟨.ref p, h1, p, v, rfl, by rw [← h3]; exact DGet.k (k := .inr key) h2, q⟩
theorem ER.dkAt {i : S.I} {B : Addr → Prop} {τ : Sl} {g : S.G} {σ : L2.St} {H : Hp} {j : Nat} (er : ER S i B τ g σ H) (h : τ[j]? = some .dk) : σ[j]? = some (some (S.val i)) := er.dk j h
theorem snd_gget (j : Nat) (key : Str) : Snd S CX cls T kws gc k N (.gget j key) := by
  refine Snd.val (fun _ _ => rfl) (fun _ _ => rfl) (fun _ _ _ => rfl) (fun sc e h env => ?_) fun {E sc asg X} G e h => ?_
  · simp only [chk] at h
    obtain ⟨x, px, kk, pk, pos, rfl, h⟩ := gB_of h
    exact fun _ => rfl
  · simp only [chk] at h
    refine PE.by (pe_g G h) fun σ H Q z => ?_
    obtain ⟨i, B, τ, g, er, p⟩ := z
    simp only [ev] at p
    split at p
    · rename_i hd
      obtain ⟨d, e1, q⟩ := p.of
      obtain ⟨n, e2, rfl⟩ := Option.map_eq_some_iff.mp e1
      obtain ⟨a, kvs, h1, h2, h3⟩ := S.numOk i g H key n er.ok e2
      exact ⟨a, kvs, .int n, by rw [← h1]; exact er.dk j hd, h2, h3, q _ H Kp.refl (.int n) er.ok⟩
    · exact p.elim
theorem plain_ints : ∀ ns : List Int, PyData.plainAll (ns.map PyData.int) = true
  | [] => by rw [List.map_nil, PyData.plainAll]
  | n :: ns => by rw [List.map_cons, PyData.plainAll, PyData.plain, plain_ints ns]; rfl
theorem ne_nil (ns : List Int) : cop .ne (.list (ns.map .int)) (.list []) = some (!ns.isEmpty) := by
  have h1 : eqOk (.list (ns.map .int)) (.list []) = true := by
    unfold eqOk
    have d1 : PyData.depth (.list []) = 1 := by rw [PyData.depth, PyData.depthAll]
    have p1 : PyData.plain (.list (ns.map .int)) = true := by rw [PyData.plain]; exact plain_ints ns
    have p2 : PyData.plain (.list []) = true := by rw [PyData.plain, PyData.plainAll]
    rw [p1, p2, d1]
    simp only [Bool.and_self, Bool.true_and, decide_eq_true_eq]
    omega
  have h2 : PyData.eqv (.list (ns.map .int)) (.list []) = ns.isEmpty := by
    rw [PyData.eqv]
    cases ns with
    | nil => rw [List.map_nil, PyData.eqvAll]; rfl
    | cons a r => rw [List.map_cons, PyData.eqvAll]; rfl; all_goals simp
  show (eqD _ _).map (!·) = _
  unfold eqD
  rw [if_pos h1, h2]
  rfl
theorem gne_read {j : Nat} {key : Str} {σ : L2.St} {H : Hp} {Q : VK} (z : tE S T cls E (.gne j key) σ H Q) : tOp (rCo (cop .ne)) (tG j key) (fun σ H Q => ∀ q, H q = none → Q (.ref q) (upd H q (.lst []))) σ H Q := by
  obtain ⟨i, B, τ, g, er, p⟩ := z
  simp only [ev] at p
  split at p
  · rename_i hd
    obtain ⟨d, e1, q⟩ := p.of
    obtain ⟨ns, e2, e3⟩ := Option.bind_eq_some_iff.mp e1
    split at e3
    · cases e3
      obtain ⟨a, kvs, h1, h2, h3, h4⟩ := S.lstOk i g H key ns er.ok e2
      generalize S.loc i key = b at h3 h4
      refine ⟨a, kvs, .ref b, by rw [← h1]; exact er.dk j hd, h2, h3, fun l hl => ?_⟩
      have hne : b ≠ l := fun z => by rw [z, hl] at h4; cases h4
      exact ⟨fun _ => False, .list (ns.map .int), .list [], !ns.isEmpty, .lst (fun z => z) (by rw [upd_ne hne]; exact h4) (RepAll.of_ints ns), .lst (fun z => z) upd_same .nil, ne_nil ns, q _ _ (Kp.new hl) (.bl _) (GS.same er.ok (Kp.new hl))⟩
    · cases e3
  · exact p.elim
theorem snd_gne (j : Nat) (key : Str) : Snd S CX cls T kws gc k N (.gne j key) := by
  refine Snd.expr (fun _ _ => rfl) (fun _ _ => rfl) (fun _ _ _ => rfl) (fun {E sc asg X} G e h => ?_) fun {E sc asg X} G e h => ?_
  · simp only [chk] at h
    split at h
    · refine PE.by (pe_cmpR (copR (op := .ne) G.hu rfl) (pe_g G h) (pe_lst pa_nil) rfl) fun σ H Q z => ?_
      obtain ⟨p, kvs, v, h1, h2, h3, q⟩ := gne_read z
      exact ⟨p, kvs, v, h1, h2, h3, Nat.zero_le _, q⟩
    · cases h
  · simp only [chk] at h
    split at h
    · refine PT.by (pt_cmpR (copR (op := .ne) G.hu rfl) (pe_g G h) (pe_lst pa_nil) rfl) fun σ H Q z => tT_bool (fun τ g d g' e => ?_) (fun Q z => ?_) z
      · simp only [ev] at e
        split at e
        · obtain ⟨ns, _, e3⟩ := Option.bind_eq_some_iff.mp (of_ok e)
          split at e3
          · cases e3; exact ⟨_, rfl⟩
          · cases e3
        · cases e
      · obtain ⟨p, kvs, v, h1, h2, h3, q⟩ := gne_read z
        exact ⟨p, kvs, v, h1, h2, h3, Nat.zero_le _, q⟩
    · cases h
theorem upd_kp {i : S.I} {H : Hp} {p : Addr} {o : HO} (b : S.bad i p) : Kp (S.bad i) H (upd H p o) := fun c u e n => by
  rw [upd_ne (fun z => n (by rw [z]; exact b))]; exact e
theorem getLast_ints {ns : List Int} {n : Int} (h : ns.getLast? = some n) : (ns.map V.int)[(ns.map V.int).length - 1]? = some (.int n) := by
  rw [List.length_map, List.getElem?_map, ← List.getLast?_eq_getElem?, h]
  rfl
theorem snd_gpop (j : Nat) (key : Str) : Snd S CX cls T kws gc k N (.gpop j key) := by
  refine Snd.val (fun _ _ => rfl) (fun _ _ => rfl) (fun _ _ _ => rfl) (fun sc e h env => ?_) fun {E sc asg X} G e h => ?_
  · simp only [chk] at h
    split at h
    · exact fun _ => rfl
    · cases h
  · simp only [chk] at h
    split at h
    · simp only [Bool.and_eq_true, decide_eq_true_eq] at h
      obtain ⟨⟨rfl, h1⟩, h2⟩ := h
      refine PE.by (pe_bm0 PySem.F.plainAttrs_list PySem.F.slot_list_pop PySem.F.type_list_pop mt_pop (pe_g G h1) (by obtain ⟨x, px, kk, pk, pos, rfl, _⟩ := gB_of h1; rfl) h2) fun σ H Q z => ?_
      obtain ⟨i, B, τ, g, er, p⟩ := z
      simp only [ev] at p
      split at p
      · rename_i hd
        split at p
        · rename_i ns e2
          split at p
          · rename_i n e3
            split at p
            · rename_i g' e4
              obtain ⟨a, kvs, h1, h2, h3, h4⟩ := S.lstOk i g H key ns er.ok e2
              obtain ⟨g4, g5⟩ := S.putlOk i g H key _ g' er.ok e4
              generalize S.loc i key = b at h3 h4 g4 g5
              rw [List.map_dropLast] at g5
              exact ⟨a, kvs, .ref b, by rw [← h1]; exact er.dk j hd, h2, h3, .inl ⟨rfl, _, SqL.of h4⟩, b, _, .int n, rfl, rfl, h4, getLast_ints e3, p _ _ (upd_kp g4) (.int n) g5⟩
            · exact p.elim
          · exact p.elim
        · exact p.elim
      · exact p.elim
    · cases h
theorem snd_gapp (j : Nat) (key : Str) {a : Slim.E} (ia : Snd S CX cls T kws gc k N a) : Snd S CX cls T kws gc k N (.gapp j key a) := by
  refine Snd.val (fun _ _ => rfl) (fun _ _ => rfl) (fun _ _ _ => rfl) (fun sc e h env => ?_) fun {E sc asg X} G e h => ?_
  · simp only [chk] at h
    split at h
    · exact fun _ => rfl
    · cases h
  · simp only [chk] at h
    split at h
    · simp only [Bool.and_eq_true, decide_eq_true_eq] at h
      obtain ⟨⟨⟨⟨rfl, h1⟩, h2⟩, h3⟩, h4⟩ := h
      refine PE.by (pe_bm PySem.F.plainAttrs_list PySem.F.slot_list_append PySem.F.type_list_append mt_append (pe_g G h1) (pa_cons (ia.pe G _ h3) pa_nil (star_cons h2)) (by obtain ⟨x, px, kk, pk, pos, rfl, _⟩ := gB_of h1; rfl) (by rw [star_cons h2]; rfl) h4 (star_cons h2) rfl) fun σ H Q z => ?_
      obtain ⟨i, B, τ, g, er, p⟩ := z
      simp only [ev] at p
      split at p
      · rename_i hd
        split at p
        · rename_i ns0 e2
          obtain ⟨a, kvs, h1, h2, h3, h4⟩ := S.lstOk i g H key ns0 er.ok e2
          refine ⟨a, kvs, .ref (S.loc i key), by rw [← h1]; exact er.dk j hd, h2, h3, .inl ⟨rfl, _, SqL.of h4⟩, i, B, τ, g, er, p.split fun d g1 v H1 _ k1 r1 o1 p1 => ?_⟩
          cases d with
          | int n =>
            cases r1.intAt
            simp only at p1
            split at p1
            · rename_i ns e5
              split at p1
              · rename_i hl
                split at p1
                · rename_i g' e4
                  obtain ⟨a', kvs', g1', g2, g3, g4⟩ := S.lstOk i g1 H1 key ns o1 e5
                  obtain ⟨f4, f5⟩ := S.putlOk i g1 H1 key _ g' o1 e4
                  rw [List.map_append] at f5
                  exact ⟨_, _, .int n, rfl, rfl, g4, by rw [List.length_map, sizeLine_eq]; unfold lim at hl; omega, p1 _ _ (k1.trans (upd_kp f4)) .non f5⟩
                · exact p1.elim
              · exact p1.elim
            · exact p1.elim
          | _ => exact p1.elim
        · exact p.elim
      · exact p.elim
    · cases h
theorem cut_take (ns : List Int) (n : Nat) : cutV (ns.map V.int) none (some (n : Int)) = (ns.take n).map V.int := by
  unfold cutV
  rw [HT.sIx_none, HT.sIx_nat, List.drop_zero, Nat.sub_zero, List.length_map, ← List.map_take]
  congr 1
  by_cases h : n ≤ ns.length
  · rw [Nat.min_eq_left h]
  · rw [Nat.min_eq_right (by omega), List.take_of_length_le (Nat.le_refl _), List.take_of_length_le (by omega)]
theorem snd_scut (j n : Nat) : Snd S CX cls T kws gc k N (.scut j n) := by
  refine Snd.val (fun _ _ => rfl) (fun _ _ => rfl) (fun _ _ _ => rfl) (fun sc e h env => ?_) fun {E sc asg X} G e h => ?_
  · simp only [chk] at h
    split at h
    · exact fun _ => rfl
    · cases h
  · simp only [chk] at h
    split at h
    · simp only [Bool.and_eq_true, decide_eq_true_eq] at h
      obtain ⟨rfl, h⟩ := h
      refine PE.by (pe_slice sl_list (G.var h) po_none (po_some pe_int)) fun σ H Q z => ?_
      obtain ⟨i, B, τ, g, er, p⟩ := z
      simp only [ev] at p
      split at p
      · rename_i hd
        obtain ⟨d, e1, q⟩ := p.of
        obtain ⟨ns, e2, rfl⟩ := Option.map_eq_some_iff.mp e1
        obtain ⟨a, h1, h2⟩ := S.cutOk i g H ns er.ok e2
        refine ⟨.ref a, by rw [← h1]; exact er.dk j hd, (n : Int), rfl, a, _, rfl, by rw [G.ck]; exact h2, fun l hl => ?_⟩
        rw [cut_take]
        exact q _ _ (Kp.new hl) (Rep.newL er.dom (RepAll.of_ints _) hl) (GS.same er.ok (Kp.new hl))
      · exact p.elim
    · cases h
end
end Slim

set_option Elab.async false
set_option linter.all false
set_option maxRecDepth 100000
set_option maxHeartbeats 4000000
/-! SLIM 13c: enumerate. -/
namespace Slim
open PySem PySem.Spec PyProof.Rows L2

/-- the two kinds of sequences -/
inductive Kd where | lst | tup
def Kd.ho : Kd → List V → HO
  | .lst, xs => .lst xs
  | .tup, xs => .tup xs
def Kd.rd : Kd → Hp → Addr → List V → Prop
  | .lst, H, a, xs => H a = some (.lst xs)
  | .tup, H, a, xs => Rd H a (.tup xs)
theorem Kd.not (q : Kd) {H : Hp} {a : Addr} {xs : List V} (e : H a = none) (h : q.rd H a xs) : False := by
  cases q
  · rw [show H a = some (.lst xs) from h] at e; cases e
  · exact rd_not e h
def Kd.itr : Kd → Heap → Addr → Addr → Nat → Prop
  | .lst, h, it, a, i => h.IsListIter it a i
  | .tup, h, it, a, i => h.IsTupleIter it a i
def Kd.seq : Kd → Heap → Addr → Array Value → Prop
  | .lst, h, a, its => h.IsList a its
  | .tup, h, a, its => h.IsTuple a its
def Kd.new : Kd → Addr → Obj
  | .lst, a => { cls := .type "list_iterator", data := .fields #[.ref a, .int 0 0] }
  | .tup, a => { cls := .type "tuple_iterator", data := .fields #[.ref a, .int 0 0] }
theorem Kd.begins (q : Kd) (a : Addr) (its : Array Value) : Begins (.ref a) (q.new a) fun h => q.seq h a its := by
  cases q
  · exact begins_list a its
  · exact begins_tuple a its
theorem Kd.draws (q : Kd) {P : Program} {w : World} {A : Around} (hh : A.handled = none) (it a : Addr) (hne : a ≠ it) (its : Array Value) :
    Draws P w A it [it, a] its.size (fun i v => its[i]? = some v) (fun i h => q.itr h it a i ∧ q.seq h a its) := by
  cases q
  · exact Draws.list hh it a hne its
  · exact Draws.tuple hh it a hne its
theorem Kd.there (q : Kd) {h : Heap} {it a : Addr} {i : Nat} (st : q.itr h it a i) : ∃ o, h.get? it = some o ∧ ∀ v, o.data ≠ .cell v := by
  cases q <;> (obtain ⟨o, ho, _, hd⟩ := st; exact ⟨o, ho, fun v z => by rw [hd] at z; cases z⟩)
theorem Kd.keep (q : Kd) {h h' : Heap} {it a : Addr} {i : Nat} (st : q.itr h it a i) (k : ∀ o, h.get? it = some o → h'.get? it = some o) : q.itr h' it a i := by
  cases q
  · exact PySem.Heap.IsListIter.at st k
  · exact PySem.Heap.IsTupleIter.at st k
theorem Kd.start (q : Kd) {h : Heap} {it a : Addr} (e : h.get? it = some (q.new a)) : q.itr h it a 0 := by
  cases q <;> exact ⟨_, e, rfl, rfl⟩
theorem Kd.inv (q : Kd) {X : Cx} {pins : List (Addr × Obj)} {σ : L2.St} {H : Hp} {s : Shared} {a : Addr} {xs : List V} (I : Inv X pins σ H s) (h : q.rd H a xs) : ∃ its : List Value, Vals xs its ∧ q.seq s.heap a its.toArray := by
  cases q
  · obtain ⟨its, rv, p, _⟩ := I.list (SqL.of h)
    exact ⟨its, rv, p.isList⟩
  · obtain ⟨its, rv, p, _⟩ := I.tuple (.inl h)
    exact ⟨its, rv, p⟩
theorem Kd.inj (q : Kd) {H : Hp} {a : Addr} {xs ys : List V} (h : q.rd H a xs) (h' : q.rd H a ys) : xs = ys := by
  cases q
  · have h1 : H a = some (.lst xs) := h
    have h2 : H a = some (.lst ys) := h'
    rw [h1] at h2
    cases h2
    rfl
  · exact rd_inj h h'

/-- what enumerate yields -/
def IteD (q : Kd) (a : Addr) (k : Int) : It :=
  ⟨fun i H => ∃ xs x, q.rd H a xs ∧ xs[i]? = some x, fun i H v H' => ∃ T x, v = .ref T ∧ H T = none ∧ H' = upd H T (.tup [.int (k + (i : Nat)), x]) ∧ ∀ xs, q.rd H a xs → xs[i]? = some x,
    fun i H => ∃ xs, q.rd H a xs ∧ xs.length = i⟩
theorem turn_en (q : Kd) {P : Program} {w : World} {K : PySem.W.Frag} {elts : List Expr} {kk : Nat} {tpos : Pos} (a e it : Addr) (k : Int) :
    Turn P w K (.Tuple elts kk tpos) (IteD q a k) [e, it] e (fun i h => (∃ old, IsEnum h e it (k + (i : Nat)) old) ∧ q.itr h it a i ∧ e ≠ it) where
  mem := List.mem_cons_self ..
  obj := fun i h st b hb => by
    obtain ⟨⟨old, he⟩, hi, _⟩ := st
    rcases List.mem_cons.mp hb with rfl | hb
    · exact ⟨_, he, fun v z => nomatch z⟩
    · rw [List.mem_singleton.mp hb]
      exact q.there hi
  keep := fun i h h' st kp => by
    obtain ⟨⟨old, he⟩, hi, hne⟩ := st
    exact ⟨⟨old, kp e (by simp) _ he⟩, q.keep hi (kp it (by simp)), hne⟩
  item := by
    intro X hP hw hK hc i pins s σ H E I hf st hg
    subst hP hw hK
    obtain ⟨⟨old, he⟩, hit, hne⟩ := st
    obtain ⟨xs, x, hq, hx⟩ := hg
    obtain ⟨its, rv, sq⟩ := q.inv I hq
    obtain ⟨u, hu, ru⟩ := rv.get hx
    have fe := hf e (by simp)
    have fi := hf it (by simp)
    have nea : e ≠ a := fun z => q.not (by rw [← z]; exact fe.1) hq
    have nia : a ≠ it := fun z => q.not (by rw [z]; exact fi.1) hq
    have lt : i < its.toArray.size := by rw [List.size_toArray]; exact (List.getElem?_eq_some_iff.mp hu).1
    have hel := Heap.lt_size he
    obtain ⟨oi, hoi, _⟩ := q.there hit
    have hil := Heap.lt_size hoi
    refine PySem.wpAny_pyNext_enum_itemC (q.draws (A := X.A.in1) (I.ok.hd hc) it a nia its.toArray) he ⟨hit, sq⟩ lt hne (by simp [hne, nea]) fun y h' tk hy ho st' hT hsz hk => ?_
    have ey : y = u := by
      rw [List.getElem?_toArray, hu] at hy
      exact (Option.some.inj hy).symm
    subst ey
    refine ⟨_, rfl, wpAny_letOwnedTupleGo_enum (s := { s with heap := h', toks := tk + 1 }) ho fun h2 he2 sb => ?_⟩
    have hT2 := (sb.2 _ (Nat.ne_of_gt hel)).trans hT
    have ok2 : ObjOk X.prog X.w (upd H s.heap.objs.size (.tup [.int (k + (i : Nat)), x])) h2 s.heap.objs.size (.tup [.int (k + (i : Nat)), x]) :=
      ⟨Nat.le_of_ble_eq_true rfl, [.int (k + (i : Nat)) tk, y], .cons ⟨_, rfl⟩ (.cons ru .nil), ⟨_, hT2, rfl, _, rfl⟩⟩
    have I2 : Inv X pins σ (upd H s.heap.objs.size (.tup [.int (k + (i : Nat)), x])) { s with heap := h2, toks := tk + 1 } := by
      refine I.turnedNew (ch := [e, it]) (fun b o hb z => ?_) hf (Nat.le_refl _) ok2
      have n1 : b ≠ e := fun z => hb (by simp [z])
      have n2 : b ≠ it := fun z => hb (by simp [z])
      exact (sb.2 b n1).trans (hk b o n1 n2 z)
    refine ⟨.ref s.heap.objs.size, _, I2, rfl, ⟨_, x, rfl, I.hok.fresh (Nat.le_refl _), rfl, fun ys hy => by rw [← q.inj hq hy]; exact hx⟩, ⟨⟨y, ?_⟩, q.keep st'.1 fun o z => (sb.2 it (Ne.symm hne)).trans z, hne⟩, fun b hb => ?_⟩
    · have e1 : k + ((i + 1 : Nat) : Int) = k + (i : Nat) + 1 := by omega
      rw [e1]
      exact he2
    · have lb : b < s.heap.objs.size := by
        rcases List.mem_cons.mp hb with rfl | hb
        · exact hel
        · rw [List.mem_singleton.mp hb]; exact hil
      rw [upd_ne (Nat.ne_of_lt lb)]
      exact (hf b hb).1
  done := by
    intro X hP hw hK hc i pins s σ H E I hf st hg
    subst hP hw hK
    obtain ⟨⟨old, he⟩, hit, hne⟩ := st
    obtain ⟨xs, hq, hx⟩ := hg
    obtain ⟨its, rv, sq⟩ := q.inv I hq
    obtain ⟨f0, f1, f2, f3, f4, f5⟩ := hf it (by simp)
    have nia : a ≠ it := fun z => q.not (by rw [z]; exact f0) hq
    subst hx
    rw [rv.length] at hit he
    rw [← List.size_toArray] at hit
    exact wpAny_pyNext_enum_endD (q.draws (A := X.A.in1) (I.ok.hd hc) it a nia its.toArray) he ⟨hit, sq⟩ fun h' eb => ⟨rfl, I.turned (t' := s.toks) (fun b o hb z => eb b o hb z) f0 f1 f3 f4 f5⟩
  self := fun A i s Q E st h => let ⟨⟨_, he⟩, _⟩ := st; wpAny_pyIter_enum he h
theorem meets_en1 {v : Value} {o : Obj} {H : Heap → Prop} (B : Begins v o H) : Meets (Builtin.«enumerate.__new__» ⟨[.type "enumerate", v], []⟩) (fun _ R s => H s.heap ∧
      R (.ok (.ret (.ref (s.heap.push o).objs.size))) { s with heap := (s.heap.push o).push { cls := .type "enumerate", data := .fields #[.none, .bool false, .ref s.heap.objs.size, rawInt 0, .none, .none] } }) :=
  .of_wp fun prog w A R s h => by
    obtain ⟨hp, g, d, tk, os⟩ := s
    obtain ⟨h1, h⟩ := h
    have hsub := sub_enumerate
    have q1 : ∀ {A' : Around} {E : Value → Shared → Prop} {Q : Value → Shared → Prop}, Q (.ref hp.objs.size) ⟨hp.push o, g, d, tk, os⟩ → wpAny (model prog w) A' (pyIter v) Q E ⟨hp, g, d, tk, os⟩ := fun z => B.iter prog w _ _ _ _ h1 z
    wp_walk using q1
    refine wpAny_stack_any fun st => wpAny_pure ?_
    split
    · rename_i c _ _ _ _ _
      cases (c == Value.type "enumerate")
      · wp_walk using q1
        exact ⟨_, rfl, h⟩
      · wp_walk using q1
        exact ⟨_, rfl, h⟩
    · wp_walk using q1
      exact ⟨_, rfl, h⟩
section
variable {X : Cx} {pins : List (Addr × Obj)} {σ : L2.St} {H : Hp} {s : Shared} {A : Around} {E : Value → Shared → Prop}
theorem en_call1 {v : Value} {o : Obj} {Z : Heap → Prop} {Q : Value → Shared → Prop} (B : Begins v o Z) (h1 : Z s.heap)
    (h : ∀ h', IsEnum h' (s.heap.objs.size + 1) s.heap.objs.size 0 .none → h'.get? s.heap.objs.size = some o → (∀ b o, s.heap.get? b = some o → h'.get? b = some o) → Q (.ref (s.heap.objs.size + 1)) { s with heap := h' }) :
    wpAny (model X.prog X.w) A (call (.type "enumerate") [v]) Q E s := by
  have hz : (s.heap.push o).objs.size = s.heap.objs.size + 1 := Heap.size_push ..
  refine callType_new F.called_enumerate (by decide) (F.typeCall_enumerate_1 _) (F.newCall_enumerate_1 _) (fun ob => F.args_object_init_2 ob _) F.entry_enumerate_new (meets_en1 B) ⟨h1, ?_⟩
  have he := Heap.get?_push_size (s.heap.push o) (o := { cls := .type "enumerate", data := .fields #[.none, .bool false, .ref s.heap.objs.size, rawInt 0, .none, .none] }) rfl
  show _ ∧ _
  rw [hz] at he ⊢
  exact ⟨⟨_, he, rfl⟩, h _ he (Heap.get?_push_of_some _ (Heap.get?_push_size _ B.free)) fun b o x => Heap.get?_push_of_some _ (Heap.get?_push_of_some _ x)⟩

/-- behind the making -/
theorem en_iter {q : Kd} {a : Addr} {k : Int} {h' : Heap} {elts : List Expr} {kk : Nat} {tpos : Pos} {R : It → Hp → Prop} (I : Inv X pins σ H s) (he : IsEnum h' (s.heap.objs.size + 1) s.heap.objs.size k .none) (hn : h'.get? s.heap.objs.size = some (q.new a))
    (hk : ∀ b o, s.heap.get? b = some o → h'.get? b = some o) (r : R (IteD q a k) H) : wpAny (model X.prog X.w) X.A (pyIter (.ref (s.heap.objs.size + 1))) (PIE X pins σ (.Tuple elts kk tpos) R) X.xe { s with heap := h' } := by
  refine wpAny_pyIter_enum he ?_
  have I2 : Inv X pins σ H { s with heap := h' } := I.kept (t' := s.toks) hk
  refine ⟨s.heap.objs.size + 1, [s.heap.objs.size + 1, s.heap.objs.size], _, _, H, rfl, I2, turn_en q a (s.heap.objs.size + 1) s.heap.objs.size k, ⟨⟨.none, ?_⟩, q.start hn, Nat.succ_ne_self _⟩, fun b hb => ?_, r⟩
  · have e : k + ((0 : Nat) : Int) = k := by omega
    rw [e]
    exact he
  · have hle : s.heap.objs.size ≤ b := by
      rcases List.mem_cons.mp hb with rfl | hb
      · omega
      · rw [List.mem_singleton.mp hb]; exact Nat.le_refl _
    exact I.fpOk hle (I.hok.fresh hle)
end
def iEn1 (ta : TA) : TI := fun σ H R => ta σ H fun vs H1 => ∃ q a xs, vs = [.ref a] ∧ Kd.rd q H1 a xs ∧ R (IteD q a 0) H1
def iEn2 (ta : TA) : TI := fun σ H R => ta σ H fun vs H1 => ∃ q a k xs, vs = [.ref a, .int k] ∧ (-(2 ^ 62) < k ∧ k < 2 ^ 62) ∧ Kd.rd q H1 a xs ∧ R (IteD q a k) H1
theorem pi_en1 {X : Cx} {e : Expr} {ta : TA} {p pos tpos : Pos} {elts : List Expr} {kk : Nat} (hg : Gl X "enumerate") (hm : X.mg "enumerate" = none) (ha : PA X [e] ta) (hs : starEach [e] X.env = [(false, eval e X.env)]) :
    PI X (.Tuple elts kk tpos) (.Call (.Name "enumerate" p) [e] [] pos) (iEn1 ta) := by
  refine ⟨fun pins s σ H R I h => ?_⟩
  refine Call_ (ld_blt I hg hm boot_enumerate (PyProof.Rows.callWith_type1 (thn (ha.run pos pins s σ H _ I h) fun us s1 ⟨vs, H1, I1, r1, q1⟩ => ?_) hs rfl))
  obtain ⟨q, a, xs, rfl, hq, r⟩ := q1
  cases r1 with
  | cons ra rr =>
    cases rr
    cases ra
    obtain ⟨its, rv, sq⟩ := q.inv I1 hq
    exact en_call1 (X := X) (q.begins a its.toArray) sq fun h' he hn hk => en_iter I1 he hn hk r
theorem pi_en2 {X : Cx} {e e2 : Expr} {ta : TA} {p pos tpos : Pos} {elts : List Expr} {kk : Nat} (hg : Gl X "enumerate") (hm : X.mg "enumerate" = none) (ha : PA X [e, e2] ta) (hs : starEach [e, e2] X.env = (false, eval e X.env) :: starEach [e2] X.env)
    (hpl : (backTo pos (starEach [e2] X.env)).any (·.1) = false) : PI X (.Tuple elts kk tpos) (.Call (.Name "enumerate" p) [e, e2] [] pos) (iEn2 ta) := by
  refine ⟨fun pins s σ H R I h => ?_⟩
  refine Call_ (ld_blt I hg hm boot_enumerate (PyProof.Rows.callWith_type1 (thn (ha.run pos pins s σ H _ I h) fun us s1 ⟨vs, H1, I1, r1, q1⟩ => ?_) hs hpl))
  obtain ⟨q, a, k, xs, rfl, hk, hq, r⟩ := q1
  cases r1 with
  | cons ra rr =>
    cases rr with
    | cons rb rr =>
      cases rr
      cases ra
      obtain ⟨t, rfl⟩ := rb
      obtain ⟨its, rv, sq⟩ := q.inv I1 hq
      exact PySem.enum_begins (q.begins a its.toArray) sq (by omega) (by omega) fun h' he hn _ hk => en_iter I1 he hn hk r
section
variable {S : GS} {CX : CXT} {cls : Cls} {T : Tab S} {kws : Str → List (List Str × List Nat)} {gc : Bool} {k : Nat} {E : XK} {N : List Str} {sc : Scope} {asg : Str → Bool} {X : Cx}
theorem wk_en {B : Addr → Prop} {H : Hp} {q : Kd} {a : Addr} {k : Int} {xs : List Slim.D} {d : Slim.D} (hd : (q = .lst ∧ d = .list xs) ∨ (q = .tup ∧ d = .tuple xs)) (r : Rep B H (.ref a) d) : Wk B H (IteD q a k) (xs.zipIdx.map fun p => .tuple [.int (k + (p.2 : Nat)), p.1]) := by
  refine ⟨fun v d' => v = .ref a ∧ d' = d, fun v d' z => by rw [z.1, z.2]; exact r, fun B' H' dm hg => ?_⟩
  have r' := hg _ _ ⟨rfl, rfl⟩
  obtain ⟨us, ha, ra⟩ : ∃ us, q.rd H' a us ∧ RepAll B' H' us xs := by
    rcases hd with ⟨rfl, rfl⟩ | ⟨rfl, rfl⟩
    · obtain ⟨b, us, e, _, h1, h2⟩ := r'.lstAt
      cases e
      exact ⟨us, h1, h2⟩
    · obtain ⟨b, us, e, _, h1, h2⟩ := r'.tupAt
      cases e
      exact ⟨us, h1, h2⟩
  rw [List.length_map, List.length_zipIdx]
  refine ⟨⟨us, ha, ra.length⟩, fun n hn => ?_⟩
  obtain ⟨v, hv, rv⟩ := ra.get (List.getElem?_eq_getElem hn)
  refine ⟨⟨us, v, ha, hv⟩, ?_⟩
  rintro x H'' ⟨T, y, rfl, hT, rfl, hy⟩
  have := hy us ha
  rw [hv] at this
  cases this
  refine ⟨.tuple [.int (k + (n : Nat)), xs[n]], ?_, Kp.new hT, Rep.newT dm (.cons (.int _) (.cons rv .nil)) hT⟩
  rw [List.getElem?_map, List.getElem?_zipIdx, List.getElem?_eq_getElem hn, Nat.zero_add]
  rfl
def argc : Slim.E → Nat
  | .cons _ r => argc r + 1
  | _ => 0
theorem evs_len : ∀ {m : Slim.E} {τ : Sl} {g g' : S.G} {ds : List Slim.D}, evs S T m τ g = .ok ds g' → ds.length = argc m := by
  intro m
  induction m with
  | nil => intro τ g g' ds h; simp only [evs] at h; cases h; rfl
  | cons a r _ ih =>
    intro τ g g' ds h
    simp only [evs] at h
    obtain ⟨x, g1, _, h⟩ := bind_ok h
    obtain ⟨xs, g2, h2, h⟩ := bind_ok h
    cases h
    rw [List.length_cons, ih h2]
    rfl
  | _ => intro τ g g' ds h; simp only [evs] at h; cases h
theorem chkA_len : ∀ {m : Slim.E} {sc : Scope} {es : List Expr}, chkA N gc kws m sc es = true → es.length = argc m := by
  intro m
  induction m with
  | nil => intro sc es h; rw [chkA_nil h]; rfl
  | cons a r _ ih =>
    intro sc es h
    obtain ⟨e, r', rfl, _, _, h2⟩ := chkA_cons h
    rw [List.length_cons, ih h2]
    rfl
  | _ => intro sc es h; simp only [chkA] at h; cases h
theorem snd_enm {a : Slim.E} (ia : Snd S CX cls T kws gc k N a) : Snd S CX cls T kws gc k N (.enm a) := by
  refine Snd.src (fun _ _ => rfl) (fun _ _ => rfl) (fun _ _ => rfl) fun {E sc asg X} G tg e h => ?_
  have seq : ∀ {B : Addr → Prop} {H1 : Hp} {v : V} {d : Slim.D} {z : Int} {j : S.I} {H : Hp} {g1 : S.G} {R : It → Hp → Prop}, Rep B H1 v d → Kp (S.bad j) H H1 → S.ok j g1 H1 →
      Post S cls j B H (Wk B) R E ((seqR d g1).bind fun xs g => .ok (xs.zipIdx.map fun p => .tuple [.int (z + (p.2 : Nat)), p.1]) g) → ∃ q b xs, v = .ref b ∧ Kd.rd q H1 b xs ∧ R (IteD q b z) H1 := fun {B H1 v d z j H g1 R} r1 k1 o1 p1 => by
    cases d with
    | list xs =>
      obtain ⟨b, us, rfl, _, h1, _⟩ := r1.lstAt
      exact ⟨.lst, b, us, rfl, h1, p1 _ H1 k1 (wk_en (.inl ⟨rfl, rfl⟩) r1) o1⟩
    | tuple xs =>
      obtain ⟨b, us, rfl, _, h1, _⟩ := r1.tupAt
      exact ⟨.tup, b, us, rfl, h1, p1 _ H1 k1 (wk_en (.inr ⟨rfl, rfl⟩) r1) o1⟩
    | _ => exact p1.elim
  simp only [chkI] at h
  split at h
  · simp only [Bool.and_eq_true, decide_eq_true_eq] at h
    obtain ⟨⟨hf, hs⟩, hc⟩ := h
    obtain ⟨p, rfl, h1, h2, h3⟩ := glName_of hf
    refine PI.by (pi_en1 (G.gl h1) (G.blt _ (by decide +kernel)) (ia.pa G _ hc) (star_cons hs)) fun σ H R t => ?_
    obtain ⟨j, B, τ, g, er, q⟩ := t
    simp only [evi] at q
    refine ⟨j, B, τ, g, er, q.split fun ds g1 vs H1 e1 k1 r1 o1 p1 => ?_⟩
    have hl := (evs_len e1).trans (chkA_len hc).symm
    match ds, r1, hl with
    | [d], .cons r1 .nil, _ =>
      obtain ⟨q, b, xs, rfl, h4, h5⟩ := seq (z := 0) r1 k1 o1 p1
      exact ⟨q, b, xs, rfl, h4, h5⟩
  · simp only [Bool.and_eq_true, decide_eq_true_eq] at h
    obtain ⟨⟨⟨hf, hs⟩, hs2⟩, hc⟩ := h
    obtain ⟨p, rfl, h1, h2, h3⟩ := glName_of hf
    refine PI.by (pi_en2 (G.gl h1) (G.blt _ (by decide +kernel)) (ia.pa G _ hc) (star_cons hs) (by rw [star_cons hs2]; rfl)) fun σ H R t => ?_
    obtain ⟨j, B, τ, g, er, q⟩ := t
    simp only [evi] at q
    refine ⟨j, B, τ, g, er, q.split fun ds g1 vs H1 e1 k1 r1 o1 p1 => ?_⟩
    have hl := (evs_len e1).trans (chkA_len hc).symm
    match ds, r1, hl with
    | [d, d2], .cons r1 (.cons r2 .nil), _ =>
      cases d2 with
      | int m =>
        cases r2.intAt
        simp only at p1
        split at p1
        · rename_i hm
          obtain ⟨q, b, xs, rfl, h4, h5⟩ := seq (z := m) r1 k1 o1 p1
          exact ⟨q, b, m, xs, rfl, hm, h4, h5⟩
        · exact p1.elim
      | _ => exact p1.elim
  · cases h
end
end Slim

set_option Elab.async false
set_option linter.all false
set_option maxRecDepth 100000
set_option maxHeartbeats 4000000
/-! SLIM 13d: zip of two sequences of any kinds. -/
namespace Slim
open PySem PySem.Spec PyProof.Rows L2

/-- what zip yields -/
def IzD (q r : Kd) (a b : Addr) : It :=
  ⟨fun i H => ∃ xs ys x y, (q.rd H a xs ∧ xs[i]? = some x) ∧ r.rd H b ys ∧ ys[i]? = some y,
    fun i H v H' => ∃ t x y, v = .ref t ∧ H t = none ∧ H' = upd H t (.tup [x, y]) ∧ (∀ xs, q.rd H a xs → xs[i]? = some x) ∧ (∀ ys, r.rd H b ys → ys[i]? = some y),
    fun i H => ∃ xs ys, q.rd H a xs ∧ r.rd H b ys ∧ i = min xs.length ys.length⟩

/-- the cells of a zip -/
def ZpSt (q r : Kd) (a b z ti tw i1 i2 : Addr) (i : Nat) (h : Heap) : Prop :=
  IsZip h z ti tw .none ∧ IsTupOf2 h ti (.ref i1) (.ref i2) ∧ (∃ x y, IsTupOf2 h tw x y) ∧ q.itr h i1 a i ∧ r.itr h i2 b i
theorem turn_zp (q r : Kd) {P : Program} {w : World} {K : PySem.W.Frag} {elts : List Expr} {kk : Nat} {tpos : Pos} {a b z ti tw i1 i2 : Addr} (S : ZipSep2 z ti tw i1 i2 [i1, a] [i2, b]) :
    Turn P w K (.Tuple elts kk tpos) (IzD q r a b) [z, ti, tw, i1, i2] z (ZpSt q r a b z ti tw i1 i2) where
  mem := List.mem_cons_self ..
  obj := fun i h st c hc => by
    obtain ⟨s1, s2, ⟨x, y, s3⟩, s4, s5⟩ := st
    simp only [List.mem_cons, List.not_mem_nil, or_false] at hc
    rcases hc with rfl | rfl | rfl | rfl | rfl
    · exact ⟨_, s1, fun v e => nomatch e⟩
    · exact ⟨_, s2, fun v e => nomatch e⟩
    · exact ⟨_, s3, fun v e => nomatch e⟩
    · exact q.there s4
    · exact r.there s5
  keep := fun i h h' st kp => by
    obtain ⟨s1, s2, ⟨x, y, s3⟩, s4, s5⟩ := st
    exact ⟨kp z (by simp) _ s1, kp ti (by simp) _ s2, ⟨x, y, kp tw (by simp) _ s3⟩, q.keep s4 (kp i1 (by simp)), r.keep s5 (kp i2 (by simp))⟩
  item := by
    intro X hP hw hK hc i pins s σ H E I hf st hg
    subst hP hw hK
    obtain ⟨s1, s2, ⟨x0, y0, s3⟩, s4, s5⟩ := st
    obtain ⟨xs, ys, x, y, ⟨hqa, hxa⟩, hqb, hyb⟩ := hg
    obtain ⟨its, rv, sq⟩ := q.inv I hqa
    obtain ⟨its2, rv2, sq2⟩ := r.inv I hqb
    obtain ⟨u, hu, ru⟩ := rv.get hxa
    obtain ⟨u2, hu2, ru2⟩ := rv2.get hyb
    have n1 : a ≠ i1 := fun e => q.not (by rw [e]; exact (hf i1 (by simp)).1) hqa
    have n2 : b ≠ i2 := fun e => r.not (by rw [e]; exact (hf i2 (by simp)).1) hqb
    have l1 : i < its.toArray.size := by rw [List.size_toArray]; exact (List.getElem?_eq_some_iff.mp hu).1
    have l2 : i < its2.toArray.size := by rw [List.size_toArray]; exact (List.getElem?_eq_some_iff.mp hu2).1
    obtain ⟨oa, ha, _⟩ := q.there s4
    obtain ⟨ob, hb, _⟩ := r.there s5
    have below : ∀ c ∈ [z, ti, tw, i1, i2], c < s.heap.objs.size := fun c hc => by
      simp only [List.mem_cons, List.not_mem_nil, or_false] at hc
      rcases hc with rfl | rfl | rfl | rfl | rfl
      · exact Heap.lt_size s1
      · exact Heap.lt_size s2
      · exact Heap.lt_size s3
      · exact Heap.lt_size ha
      · exact Heap.lt_size hb
    refine wpAny_pyNext_zipD2_item S (q.draws (A := X.A.in1) (I.ok.hd hc) i1 a n1 its.toArray) (r.draws (A := X.A.in1) (I.ok.hd hc) i2 b n2 its2.toArray) s1 s2 s3 ⟨s4, sq⟩ ⟨s5, sq2⟩ l1 l2 fun v1 v2 h' tk e1 e2 z' tw' m1 m2 hT hsz hk => ?_
    have f1 : v1 = u := by
      rw [List.getElem?_toArray, hu] at e1
      exact (Option.some.inj e1).symm
    have f2 : v2 = u2 := by
      rw [List.getElem?_toArray, hu2] at e2
      exact (Option.some.inj e2).symm
    subst f1 f2
    refine ⟨_, rfl, wpAny_letOwnedTupleGo_zip (s := { s with heap := h', toks := tk }) z' fun h2 z2 sb => ?_⟩
    have hT2 := (sb.2 _ (Nat.ne_of_gt (below z (by simp)))).trans hT
    have ok2 : ObjOk X.prog X.w (upd H s.heap.objs.size (.tup [x, y])) h2 s.heap.objs.size (.tup [x, y]) :=
      ⟨Nat.le_of_ble_eq_true rfl, [v1, v2], .cons ru (.cons ru2 .nil), ⟨_, hT2, rfl, _, rfl⟩⟩
    have I2 : Inv X pins σ (upd H s.heap.objs.size (.tup [x, y])) { s with heap := h2, toks := tk } := by
      refine I.turnedNew (ch := [z, ti, tw, i1, i2]) (fun c o hc e => ?_) hf (Nat.le_refl _) ok2
      have d : ∀ y ∈ [z, ti, tw, i1, i2], c ≠ y := fun y hy e => hc (by rw [e]; exact hy)
      exact (sb.2 c (d z (by simp))).trans (hk c o (d z (by simp)) (d tw (by simp)) (d i1 (by simp)) (d i2 (by simp)) e)
    refine ⟨.ref s.heap.objs.size, _, I2, rfl, ⟨_, x, y, rfl, I.hok.fresh (Nat.le_refl _), rfl, fun zs hz => by rw [← q.inj hqa hz]; exact hxa, fun zs hz => by rw [← r.inj hqb hz]; exact hyb⟩, ⟨z2, ?_, ⟨v1, v2, ?_⟩, ?_, ?_⟩, fun c hc => ?_⟩
    · exact (sb.2 ti S.TIz).trans (hk ti _ S.TIz S.TITO S.TIi1 S.TIi2 s2)
    · exact (sb.2 tw S.TOz).trans tw'
    · exact q.keep m1.1 fun o e => (sb.2 i1 S.zi1.symm).trans e
    · exact r.keep m2.1 fun o e => (sb.2 i2 S.zi2.symm).trans e
    · rw [upd_ne (Nat.ne_of_lt (below c hc))]
      exact (hf c hc).1
  done := by
    intro X hP hw hK hc i pins s σ H E I hf st hg
    subst hP hw hK
    obtain ⟨s1, s2, ⟨x0, y0, s3⟩, s4, s5⟩ := st
    obtain ⟨xs, ys, hqa, hqb, he⟩ := hg
    obtain ⟨its, rv, sq⟩ := q.inv I hqa
    obtain ⟨its2, rv2, sq2⟩ := r.inv I hqb
    have n1 : a ≠ i1 := fun e => q.not (by rw [e]; exact (hf i1 (by simp)).1) hqa
    have n2 : b ≠ i2 := fun e => r.not (by rw [e]; exact (hf i2 (by simp)).1) hqb
    have k1 := rv.length
    have k2 := rv2.length
    have a1 : i ≤ its.toArray.size := by rw [List.size_toArray]; omega
    have a2 : i ≤ its2.toArray.size := by rw [List.size_toArray]; omega
    have a3 : i = its.toArray.size ∨ i = its2.toArray.size := by rw [List.size_toArray, List.size_toArray]; omega
    exact wpAny_pyNext_zipD2_end S (q.draws (A := X.A.in1) (I.ok.hd hc) i1 a n1 its.toArray) (r.draws (A := X.A.in1) (I.ok.hd hc) i2 b n2 its2.toArray) s1 s2 s3 ⟨s4, sq⟩ ⟨s5, sq2⟩ a1 a2 a3 fun h' tk hk =>
      ⟨rfl, I.turnedL (t' := tk) (ch := [z, ti, tw, i1, i2]) (fun c o hc e => hk c o (fun e => hc (by simp [e])) (fun e => hc (by simp [e])) (fun e => hc (by simp [e])) (fun e => hc (by simp [e])) e) hf⟩
  self := fun A i s Q E st h => wpAny_pyIter_zip st.1 h
def iZp (ta : TA) : TI := fun σ H R => ta σ H fun vs H1 => ∃ q r a b xs ys, vs = [.ref a, .ref b] ∧ (Kd.rd q H1 a xs ∧ Kd.rd r H1 b ys) ∧ R (IzD q r a b) H1
theorem Kd.lt (q : Kd) {h : Heap} {a : Addr} {its : Array Value} (e : q.seq h a its) : a < h.objs.size := by
  cases q
  · obtain ⟨o, ho, _⟩ := e
    exact Heap.lt_size ho
  · obtain ⟨o, ho, _⟩ := e
    exact Heap.lt_size ho
theorem pi_zp {X : Cx} {e e2 : Expr} {ta : TA} {p pos tpos : Pos} {elts : List Expr} {kk : Nat} (hg : Gl X "zip") (hm : X.mg "zip" = none) (ha : PA X [e, e2] ta) (hs : starEach [e, e2] X.env = (false, eval e X.env) :: starEach [e2] X.env)
    (hpl : (backTo pos (starEach [e2] X.env)).any (·.1) = false) : PI X (.Tuple elts kk tpos) (.Call (.Name "zip" p) [e, e2] [] pos) (iZp ta) := by
  refine ⟨fun pins s σ H R I h => ?_⟩
  refine Call_ (ld_blt I hg hm PyProof.Rows.boot_zip (PyProof.Rows.callWith_type1 (thn (ha.run pos pins s σ H _ I h) fun us s1 ⟨vs, H1, I1, r1, q1⟩ => ?_) hs hpl))
  obtain ⟨q, r, a, b, xs, ys, rfl, ⟨hqa, hqb⟩, q1⟩ := q1
  cases r1 with
  | cons ra rr =>
    cases rr with
    | cons rb rr =>
      cases rr
      cases ra
      cases rb
      obtain ⟨its, rv, sq⟩ := q.inv I1 hqa
      obtain ⟨its2, rv2, sq2⟩ := r.inv I1 hqb
      refine zip_begins2 (q.begins a its.toArray) (r.begins b its2.toArray) sq sq2 fun h' hz hti htw g1 g2 hsz hk => wpAny_pyIter_zip hz ?_
      have I2 : Inv X pins σ H1 { s1 with heap := h' } := I1.kept (t' := s1.toks) hk
      refine ⟨s1.heap.objs.size + 4, [s1.heap.objs.size + 4, s1.heap.objs.size + 2, s1.heap.objs.size + 3, s1.heap.objs.size, s1.heap.objs.size + 1], _, _, H1, rfl, I2,
        turn_zp q r (zip_sep2 (fp1 := [a]) (fp2 := [b]) (fun c hc => by rw [List.mem_singleton.mp hc]; exact q.lt sq) (fun c hc => by rw [List.mem_singleton.mp hc]; exact r.lt sq2)), ⟨hz, hti, ⟨_, _, htw⟩, q.start g1, r.start g2⟩, fun c hc => ?_, q1⟩
      have hle : s1.heap.objs.size ≤ c := by
        simp only [List.mem_cons, List.not_mem_nil, or_false] at hc
        rcases hc with rfl | rfl | rfl | rfl | rfl <;> omega
      exact I1.fpOk hle (I1.hok.fresh hle)
section
variable {S : GS} {CX : CXT} {cls : Cls} {T : Tab S} {kws : Str → List (List Str × List Nat)} {gc : Bool} {k : Nat} {E : XK} {N : List Str} {sc : Scope} {asg : Str → Bool} {X : Cx}
def SeqD (q : Kd) (d : Slim.D) (xs : List Slim.D) : Prop := (q = .lst ∧ d = .list xs) ∨ (q = .tup ∧ d = .tuple xs)
theorem SeqD.at {q : Kd} {d : Slim.D} {xs : List Slim.D} (h : SeqD q d xs) {B : Addr → Prop} {H : Hp} {a : Addr} (r : Rep B H (.ref a) d) : ∃ us, q.rd H a us ∧ RepAll B H us xs := by
  rcases h with ⟨rfl, rfl⟩ | ⟨rfl, rfl⟩
  · obtain ⟨b, us, e, _, h1, h2⟩ := r.lstAt
    cases e
    exact ⟨us, h1, h2⟩
  · obtain ⟨b, us, e, _, h1, h2⟩ := r.tupAt
    cases e
    exact ⟨us, h1, h2⟩
theorem seqR_some {d : Slim.D} {g : S.G} {α : Type} {f : List Slim.D → S.G → Res S α} (h : (seqR d g).bind f ≠ .no) : ∃ q xs, SeqD q d xs ∧ (seqR d g).bind f = f xs g := by
  cases d with
  | list xs => exact ⟨.lst, xs, .inl ⟨rfl, rfl⟩, rfl⟩
  | tuple xs => exact ⟨.tup, xs, .inr ⟨rfl, rfl⟩, rfl⟩
  | _ => exact absurd rfl h
theorem SeqD.ref {q : Kd} {d : Slim.D} {xs : List Slim.D} (h : SeqD q d xs) {B : Addr → Prop} {H : Hp} {v : V} (r : Rep B H v d) : ∃ a, v = .ref a := by
  rcases h with ⟨rfl, rfl⟩ | ⟨rfl, rfl⟩
  · obtain ⟨b, us, e, _⟩ := r.lstAt; exact ⟨b, e⟩
  · obtain ⟨b, us, e, _⟩ := r.tupAt; exact ⟨b, e⟩
theorem wk_zp {B : Addr → Prop} {H : Hp} {q r : Kd} {a b : Addr} {xs ys : List Slim.D} {d e : Slim.D} (hd : SeqD q d xs) (he : SeqD r e ys) (r1 : Rep B H (.ref a) d) (r2 : Rep B H (.ref b) e) : Wk B H (IzD q r a b) ((xs.zip ys).map fun p => .tuple [p.1, p.2]) := by
  refine ⟨fun v d' => (v = .ref a ∧ d' = d) ∨ (v = .ref b ∧ d' = e), fun v d' z => ?_, fun B' H' dm hg => ?_⟩
  · rcases z with ⟨rfl, rfl⟩ | ⟨rfl, rfl⟩
    · exact r1
    · exact r2
  obtain ⟨us, ha, ra⟩ := hd.at (hg _ _ (.inl ⟨rfl, rfl⟩))
  obtain ⟨ws, hb, rb⟩ := he.at (hg _ _ (.inr ⟨rfl, rfl⟩))
  rw [List.length_map, List.length_zip]
  refine ⟨⟨us, ws, ha, hb, by rw [ra.length, rb.length]⟩, fun n hn => ?_⟩
  have hn1 : n < xs.length := by omega
  have hn2 : n < ys.length := by omega
  obtain ⟨v, hv, rv⟩ := ra.get (List.getElem?_eq_getElem hn1)
  obtain ⟨w, hw, rw'⟩ := rb.get (List.getElem?_eq_getElem hn2)
  refine ⟨⟨us, ws, v, w, ⟨ha, hv⟩, hb, hw⟩, ?_⟩
  rintro x H'' ⟨t, y, z, rfl, ht, rfl, hy, hz⟩
  have e1 := hy us ha
  have e2 := hz ws hb
  rw [hv] at e1
  rw [hw] at e2
  cases e1
  cases e2
  refine ⟨.tuple [xs[n], ys[n]], ?_, Kp.new ht, Rep.newT dm (.cons rv (.cons rw' .nil)) ht⟩
  rw [List.getElem?_map]
  have : (xs.zip ys)[n]? = some (xs[n], ys[n]) := by
    rw [List.getElem?_zip_eq_some]
    exact ⟨List.getElem?_eq_getElem hn1, List.getElem?_eq_getElem hn2⟩
  rw [this]
  rfl
theorem post_no {i : S.I} {B : Addr → Prop} {H : Hp} {α β : Type} {R : Hp → β → α → Prop} {Q : β → Hp → Prop} {res : Res S α} (h : Post S cls i B H R Q E res) : res ≠ .no := fun z => by rw [z] at h; exact h.elim
theorem snd_zp {a b : Slim.E} (ia : Snd S CX cls T kws gc k N a) (ib : Snd S CX cls T kws gc k N b) : Snd S CX cls T kws gc k N (.zp a b) := by
  refine Snd.src (fun _ _ => rfl) (fun _ _ => rfl) (fun _ _ => rfl) fun {E sc asg X} G tg e h => ?_
  simp only [chkI] at h
  split at h
  · simp only [Bool.and_eq_true] at h
    obtain ⟨⟨⟨⟨hf, hs⟩, hs2⟩, hc⟩, hc2⟩ := h
    obtain ⟨p, rfl, h1, h2, h3⟩ := glName_of hf
    refine PI.by (pi_zp (G.gl h1) (G.blt _ (by decide +kernel)) (pa_cons (ia.pe G _ hc) (pa_cons (ib.pe G _ hc2) pa_nil (star_cons hs2)) (star_cons hs)) (star_cons hs) (by rw [star_cons hs2]; rfl)) fun σ H R z => ?_
    obtain ⟨j, B, τ, g, er, q⟩ := z
    simp only [evi] at q
    refine ⟨j, B, τ, g, er, q.split fun d g1 v H1 _ k1 r1 o1 p1 => ?_⟩
    have er1 := er.step k1 o1
    refine ⟨j, B, τ, g1, er1, (p1.later k1).split fun d2 g2 w H2 _ k2 r2 o2 p2 => ?_⟩
    obtain ⟨q1, xs, e1, e1'⟩ := seqR_some (post_no p2)
    rw [e1'] at p2
    obtain ⟨q2, ys, e2, e2'⟩ := seqR_some (post_no p2)
    rw [e2'] at p2
    obtain ⟨a1, rfl⟩ := e1.ref r1
    obtain ⟨a2, rfl⟩ := e2.ref r2
    have r1' := r1.keep (k2.mono er.sub)
    obtain ⟨us, ha, _⟩ := e1.at r1'
    obtain ⟨ws, hb, _⟩ := e2.at r2
    exact ⟨q1, q2, a1, a2, us, ws, rfl, ⟨ha, hb⟩, p2 _ H2 k2 (wk_zp e1 e2 r1' r2) o2⟩
  · cases h
end
end Slim

set_option Elab.async false
set_option linter.all false
set_option maxRecDepth 100000
set_option maxHeartbeats 4000000
/-! SLIM 14: comprehensions; every expression. -/
namespace Slim
open PySem PySem.Spec PyProof.Rows L2
section
variable {S : GS} {CX : CXT} {cls : Cls} {T : Tab S} {kws : Str → List (List Str × List Nat)} {gc : Bool} {k : Nat} {E : XK} {N : List Str} {sc : Scope} {asg : Str → Bool} {X : Cx}
theorem wipe_idem (σ : L2.St) (own : List Nat) : wipe (wipe σ own) own = wipe σ own := by
  have comm : ∀ (ws : List Nat) (ρ : L2.St) (a : Nat), wipe (ρ.set a none) ws = (wipe ρ ws).set a none := fun ws => by
    induction ws with
    | nil => intro ρ a; rfl
    | cons c ws ih =>
      intro ρ a
      show (wipe (ρ.set a none) ws).set c none = ((wipe ρ ws).set c none).set a none
      rw [ih]
      by_cases e : c = a
      · subst e; rfl
      · rw [List.set_comm _ _ e]
  induction own with
  | nil => rfl
  | cons a own ih =>
    show (wipe ((wipe σ own).set a none) own).set a none = (wipe σ own).set a none
    rw [comm, List.set_set, ih]

/-- the context of a comprehension's block is good -/
theorem Good.blk (G : Good S CX cls T kws gc k E N sc asg X) {scope : Scope} {own : List (Str × Nat)} (ok : BlkOk N sc scope own) (s : Shared) (H : Hp) (C : Addr) (cl : List (Str × Addr)) (fp : List Addr) :
    Good S CX cls T kws gc k E0 N (relS scope sc) (blkAsg scope) (X.blk s H scope (compEnvC scope cl C X.env) fp) where
  hN := G.hN
  nd := G.nd
  scp := by
    have := G.scp
    subst this
    rfl
  kf := ok.kind
  calm := G.calm
  ck := G.ck
  gd := G.gd
  room := G.room
  tab := G.tab
  blt := G.blt
  gcd := G.gcd
  cst := G.cst
  pass := G.quiet _ rfl rfl
  quiet := fun Y h1 h2 => G.quiet Y h1 h2
  asg := fun x h => by
    have := G.scp
    subst this
    unfold blkAsg at h
    have hl : ∀ kd, scope.names.lookup x = some kd → kd ≠ .free → (relS scope X.env.scope).names.lookup x = some kd := fun kd h1 h2 => lookup_relS_keep h2 h1
    split at h
    · rename_i e
      have := hl _ e (by decide)
      exact ⟨.inl this, .inr this⟩
    · rename_i e
      have := hl _ e (by decide)
      refine ⟨.inr this, .inl ?_⟩
      show (scope.names.lookup x == some .cell) = true
      rw [e]; rfl
    · cases h

/-- one turn of a comprehension -/
def compF (S : GS) (T : Tab S) (own : List Nat) (tg : Tg) (c el : Slim.E) (τ : Sl) : D → S.G → Res S (Option D) := fun d g => match bindT tg d (wipeS τ own) with
  | none => .no
  | some τ' => (ev S T c τ' g).bind fun x g => match tru x with
    | some true => (ev S T el τ' g).bind fun y g => .ok (some y) g
    | some false => .ok none g
    | none => .no
theorem compGo_len {f : D → S.G → Res S (Option D)} : ∀ {ds : List D} {g g' : S.G} {ys : List D}, compGo f ds g = .ok ys g' → ys.length ≤ ds.length
  | [], g, g', ys, h => by cases h; exact Nat.le_refl _
  | d :: ds, g, g', ys, h => by
    simp only [compGo] at h
    obtain ⟨o, g1, e1, h⟩ := bind_ok h
    cases o with
    | none => exact Nat.le_succ_of_le (compGo_len h)
    | some y =>
      obtain ⟨zs, g2, e2, h⟩ := bind_ok h
      cases h
      have := compGo_len e2
      simp only [List.length_cons]
      omega
theorem quiet_post {cls : Cls} {i : S.I} {B : Addr → Prop} {H : Hp} {E : XK} {α β : Type} {R : Hp → β → α → Prop} {Q : β → Hp → Prop} {r : Res S α} (h : Post S cls i B H R Q E r.quiet) : ∃ a g, r = .ok a g ∧ ∀ v H', Kp (S.bad i) H H' → R H' v a → S.ok i g H' → Q v H' := by
  cases r with
  | ok a g => exact ⟨a, g, rfl, h⟩
  | ex c t g => exact h.elim
  | no => exact h.elim
def OptRep (B : Addr → Prop) (H : Hp) : Option V → Option D → Prop
  | some v, some y => Rep B H v y
  | none, none => True
  | _, _ => False

/-- one element -/
theorem comp_turn {tt : TT} {own : List Nat} {tg : Tg} {c el : Slim.E} {τ : Sl} {i : S.I} {B : Addr → Prop} {g g' : S.G} {σ : L2.St} {H : Hp} {x : V} {d : D} {o : Option D} {Y : Option V → Hp → Prop} (er : ER S i B τ g σ H) (r : Rep B H x d)
    (hs : ∀ j ∈ tgS tg, j ∈ own) (e : compF S T own tg c el τ d g = .ok o g') (htt : ∀ σ H Q, tT S T cls E0 c σ H Q → tt σ H Q)
    (q : ∀ v H', Kp (S.bad i) H H' → S.ok i g' H' → OptRep B H' v o → Y v H') :
    gT tg x (wipe σ own) H fun σ2 H2 => wipe σ2 own = wipe σ own ∧ tt σ2 H2 fun b H3 => if b = true then tE S T cls E0 el σ2 H3 fun y H4 => Y (some y) H4 else Y none H3 := by
  unfold compF bindT at e
  by_cases hf : fitT tg d = true
  · rw [if_pos hf] at e
    simp only at e
    refine ⟨B, d, r, hf, fun σ' b => ⟨?_, ?_⟩⟩
    · rw [BR.wipe hs b]
      exact wipe_idem σ own
    · have er' := (er.wiped own).bind b
      obtain ⟨xc, g1, e1, e⟩ := bind_ok e
      refine htt _ _ _ ⟨i, B, _, g, er', ?_⟩
      rw [e1]
      show Post S cls i B H _ _ E0 (Res.of (tru xc) g1)
      cases ht : tru xc with
      | none => rw [ht] at e; cases e
      | some b =>
        rw [ht] at e
        rintro v H1 k1 rfl o1
        cases v with
        | true =>
          rw [if_pos rfl]
          simp only at e
          obtain ⟨y, g2, e2, e⟩ := bind_ok e
          cases e
          refine ⟨i, B, _, g1, er'.step k1 o1, ?_⟩
          rw [e2]
          exact fun v H2 k2 r2 o2 => q (some v) H2 (k1.trans k2) o2 r2
        | false =>
          rw [if_neg Bool.false_ne_true]
          cases e
          exact q none H1 k1 o1 trivial
  · rw [if_neg hf] at e
    cases e
theorem map_own (N : List Str) (own : List Nat) : (ownOf N own).map (·.2) = own := by
  unfold ownOf
  rw [List.map_map]
  exact List.map_id' own

/-- the parts of a comprehension, and how they are read together -/
theorem comp_parts (own : List Nat) (tg : Tg) {it c el : Slim.E} (ii : Snd S CX cls T kws gc k N it) (ic : Snd S CX cls T kws gc k N c) (ie : Snd S CX cls T kws gc k N el) {E : XK} {sc : Scope} {asg : Str → Bool} {X : Cx} (G : Good S CX cls T kws gc k E N sc asg X)
    {elt t iter : Expr} {ifs : List Expr} {scope : Scope} {pos : Pos} (h : chk N gc kws (.comp own tg it c el) sc (.ListComp elt [⟨t, iter, ifs, 0⟩] scope pos) = true) :
    ∃ tt, PI X t iter (tI S T cls E it) ∧ BlkOk N sc scope (ownOf N own) ∧ (∀ (s : Shared) (H : Hp) (C : Addr) (cl : List (Str × Addr)) (fp : List Addr), PG (X.blk s H scope (compEnvC scope cl C X.env) fp) t (gT tg)) ∧
      (∀ (s : Shared) (H : Hp) (C : Addr) (cl : List (Str × Addr)) (fp : List Addr), PTs (X.blk s H scope (compEnvC scope cl C X.env) fp) ifs tt) ∧
      (∀ (s : Shared) (H : Hp) (C : Addr) (cl : List (Str × Addr)) (fp : List Addr), PE (X.blk s H scope (compEnvC scope cl C X.env) fp) elt (tE S T cls E0 el)) ∧ (∀ x, foldedSetIterable iter X.env x = pure x) ∧
      ∀ σ H Q, tF S T cls E (.comp own tg it c el) σ H Q → tLc (tI S T cls E it) (gT tg) tt (tE S T cls E0 el) own σ H Q := by
  simp only [chk] at h
  simp only [Bool.and_eq_true] at h
  obtain ⟨⟨⟨⟨⟨hb, hin⟩, ht⟩, hi⟩, he⟩, hc⟩ := h
  have ok := blkOk_by hb
  have hs : ∀ j ∈ tgS tg, j ∈ own := fun j hj => by
    have := List.all_eq_true.mp hin j hj
    simpa using this
  obtain ⟨tt, htt, htt2⟩ : ∃ tt, (∀ (s : Shared) (H : Hp) (C : Addr) (cl : List (Str × Addr)) (fp : List Addr), PTs (X.blk s H scope (compEnvC scope cl C X.env) fp) ifs tt) ∧ ∀ σ H Q, tT S T cls E0 c σ H Q → tt σ H Q := by
    split at hc
    · split at hc
      · refine ⟨tYes, fun _ _ _ _ _ => pts_nil, fun σ H Q z => ?_⟩
        obtain ⟨j, B, τ, g, er, p⟩ := z
        exact p true H Kp.refl rfl er.ok
      · cases hc
    · exact ⟨tT S T cls E0 c, fun s H C cl fp => pts_one (ic.pt (G.blk ok s H C cl fp) _ hc), fun _ _ _ z => z⟩
    · cases hc
  have hset : ∀ x, foldedSetIterable iter X.env x = pure x := by
    cases it with
    | cons a r =>
      simp only [chkI, Bool.and_eq_true] at hi
      intro x
      cases iter <;> first | rfl | (simp at hi)
    | rng1 a =>
      simp only [chkI] at hi
      intro x
      cases iter <;> first | rfl | (simp at hi)
    | rng2 a b =>
      simp only [chkI] at hi
      intro x
      cases iter <;> first | rfl | (simp at hi)
    | enm a =>
      simp only [chkI] at hi
      intro x
      cases iter <;> first | rfl | (simp at hi)
    | zp a b =>
      simp only [chkI] at hi
      intro x
      cases iter <;> first | rfl | (simp at hi)
    | _ => simp [chkI] at hi
  refine ⟨tt, ii.pi G t iter hi, ok, fun s H C cl fp => pg_ok (G.blk ok s H C cl fp) tg t ht, htt, fun s H C cl fp => ie.pe (G.blk ok s H C cl fp) _ he, hset, fun σ H Q z => ?_⟩
  obtain ⟨j, B, τ, g, er, p⟩ := z
  simp only [ev] at p
  refine ⟨j, B, τ, g, er, p.split fun items g1 J H1 _ k1 wk o1 p1 => ?_⟩
  split at p1
  · rename_i hlen
    have er1 := er.step k1 o1
    obtain ⟨dl, g3, e3, q⟩ := quiet_post p1
    obtain ⟨ys, g4, e4, e5⟩ := bind_ok e3
    cases e5
    change compGo (compF S T own tg c el τ) items g1 = .ok ys g3 at e4
    intro D hD
    have nD : ¬ B D := er1.dom.new hD
    let B' : Addr → Prop := fun a => B a ∨ a = D
    refine ⟨fun n m Hc => m = items.length - n ∧ n ≤ items.length ∧ ∃ gn acc accD, Hc D = some (.lst acc) ∧ RepAll B' Hc acc accD ∧ Kp (S.bad j) H1 Hc ∧ S.ok j gn Hc ∧ acc.length ≤ n ∧
      ∃ zs, compGo (compF S T own tg c el τ) (items.drop n) gn = .ok zs g3 ∧ ys = accD ++ zs, ⟨_, rfl, Nat.zero_le _, g1, [], [], upd_same, .nil, Kp.new hD, GS.same o1 (Kp.new hD), Nat.le_refl _, ys, by simpa using e4, rfl⟩, ?_⟩
    rintro n m Hc ⟨rfl, hn, gn, acc, accD, hl, ra, kc, oc, hal, zs, ez, ey⟩
    have erc := er1.step kc oc
    have mo : ∀ a, B' a → B a ∨ H1 a = none := fun a h => h.imp id fun e => by rw [e]; exact hD
    have dom' : ∀ {gg : S.G} {Hh : Hp} {ac : List V}, Kp (S.bad j) H1 Hh → S.ok j gg Hh → Hh D = some (.lst ac) → Dom B' Hh := fun kk oo hh a h => by
      rcases h with h | h
      · exact (er1.step kk oo).dom a h
      · rw [h]; exact ⟨_, hh, nt_lst⟩
    have kB : ∀ {Hh : Hp}, Kp (S.bad j) H1 Hh → Kp B' H1 Hh := fun kk => kk.mono fun a h => .inl (er.sub a h)
    obtain ⟨gs, wg, wk⟩ := wk
    obtain ⟨w1, w2⟩ := wk B' Hc (dom' kc oc hl) fun v d h => (((wg v d h).less (wkB_le it)).more mo).keep (kB kc)
    by_cases hlt : n < items.length
    · refine .inr ?_
      obtain ⟨w3, w4⟩ := w2 n hlt
      refine ⟨w3, fun H' => n + 1 ≤ items.length ∧ ∃ gn acc accD, H' D = some (.lst acc) ∧ RepAll B' H' acc accD ∧ Kp (S.bad j) H1 H' ∧ S.ok j gn H' ∧ acc.length ≤ n + 1 ∧
        ∃ zs, compGo (compF S T own tg c el τ) (items.drop (n + 1)) gn = .ok zs g3 ∧ ys = accD ++ zs, fun H' q' => ⟨items.length - (n + 1), by omega, rfl, q'⟩, fun x H'' hy => ?_⟩
      obtain ⟨d, hd, ky, ry⟩ := w4 x H'' hy
      have od : S.ok j gn H'' := GS.same oc ky
      have hD2 : H'' D = some (.lst acc) := ky D _ hl (fun z => z)
      have ra2 := ra.keep (ky.any (bad := B'))
      have eri := List.getElem?_eq_some_iff.mp hd
      rw [List.drop_eq_getElem_cons eri.1, eri.2] at ez
      simp only [compGo] at ez
      obtain ⟨o, g5, e5, ez⟩ := bind_ok ez
      have k12 : Kp (S.bad j) H1 H'' := kc.trans ky.any
      -- the slots' data stand apart from the new list
      have er' : ER S j B' τ gn σ H'' := ⟨od, fun a h => .inl (er.sub a h), dom' k12 od hD2, fun n d h => by
        obtain ⟨v, h1, h2⟩ := er1.sl n d h
        exact ⟨v, h1, (h2.more mo).keep (kB k12)⟩, er.dk, er.len, fun x a d h => ((er1.zs x a d h).more mo).keep (kB k12)⟩
      have fin : ∀ (v : Option V) (H2 : Hp), Kp (S.bad j) H'' H2 → S.ok j g5 H2 → OptRep B' H2 v o → (fun (v : Option V) (H4 : Hp) => match v with
          | some y => ∃ acc, H4 D = some (.lst acc) ∧ acc.length < sizeLine ∧ (n + 1 ≤ items.length ∧ ∃ gn acc' accD, (upd H4 D (.lst (acc ++ [y]))) D = some (.lst acc') ∧ RepAll B' (upd H4 D (.lst (acc ++ [y]))) acc' accD ∧ Kp (S.bad j) H1 (upd H4 D (.lst (acc ++ [y]))) ∧ S.ok j gn (upd H4 D (.lst (acc ++ [y]))) ∧ acc'.length ≤ n + 1 ∧
            ∃ zs, compGo (compF S T own tg c el τ) (items.drop (n + 1)) gn = .ok zs g3 ∧ ys = accD ++ zs)
          | none => n + 1 ≤ items.length ∧ ∃ gn acc accD, H4 D = some (.lst acc) ∧ RepAll B' H4 acc accD ∧ Kp (S.bad j) H1 H4 ∧ S.ok j gn H4 ∧ acc.length ≤ n + 1 ∧
            ∃ zs, compGo (compF S T own tg c el τ) (items.drop (n + 1)) gn = .ok zs g3 ∧ ys = accD ++ zs) v H2 := fun v H2 k2 o2 rv => by
        have hb : ¬ S.bad j D := fun z => nD (er.sub D z)
        have hD3 : H2 D = some (.lst acc) := k2 D _ hD2 hb
        have k2B : Kp B' H'' H2 := k2.mono fun a h => .inl (er.sub a h)
        have ra3 := ra2.keep k2B
        cases v with
        | none =>
          cases o with
          | some y => exact rv.elim
          | none => exact ⟨hlt, g5, acc, accD, hD3, ra3, k12.trans k2, o2, by omega, zs, ez, ey⟩
        | some v =>
          cases o with
          | none => exact rv.elim
          | some y =>
            simp only at ez
            obtain ⟨zs', g6, e6, ez⟩ := bind_ok ez
            cases ez
            have kD : Kp B' H2 (upd H2 D (.lst (acc ++ [v]))) := fun b o e nb => by
              rw [upd_ne (fun z => nb (.inr z))]; exact e
            refine ⟨acc, hD3, ?_, hlt, g5, acc ++ [v], accD ++ [y], upd_same, (ra3.append (.cons rv .nil)).keep kD, ?_, ?_, by rw [List.length_append, List.length_singleton]; omega, zs', e6, by rw [ey, List.append_assoc]; rfl⟩
            · unfold lim at hlen
              rw [sizeLine_eq]; omega
            · intro b o e nb
              have hne : b ≠ D := fun z => by rw [z, hD] at e; cases e
              rw [upd_ne hne]
              exact (k12.trans k2) b o e nb
            · refine S.stay j g5 H2 _ o2 fun a o ba h => ?_
              rw [upd_ne (fun z => hb (by rw [← z]; exact ba))]; exact h
      exact comp_turn er' ry hs e5 htt2 fin
    · have hn' : n = items.length := by omega
      subst hn'
      refine .inl ⟨w1, ?_⟩
      rw [List.drop_length] at ez
      cases ez
      rw [List.append_nil] at ey
      subst ey
      exact q _ Hc (k1.trans kc) ⟨.lst nD hl (ra.less fun a h => .inl h), fun _ _ => ⟨D, rfl, k1.back (fun z => nD (er.sub D z)) hD⟩⟩ oc
  · exact p1.elim
theorem pe_comp (own : List Nat) (tg : Tg) {it c el : Slim.E} (ii : Snd S CX cls T kws gc k N it) (ic : Snd S CX cls T kws gc k N c) (ie : Snd S CX cls T kws gc k N el) {E : XK} {sc : Scope} {asg : Str → Bool} {X : Cx} (G : Good S CX cls T kws gc k E N sc asg X) (e : Expr)
    (h : chk N gc kws (.comp own tg it c el) sc e = true) : PE X e (tF S T cls E (.comp own tg it c el)) := by
  have h' := h
  simp only [chk] at h
  split at h
  · obtain ⟨tt, p1, ok, p2, p3, p4, p5, rd⟩ := comp_parts own tg ii ic ie G h'
    refine PE.by (pe_lc (own := ownOf N own) G.calm (by rw [G.hN]; exact G.nd) p1 (by rw [G.hN, G.scp]; exact ok) p2 p3 p4 p5) fun σ H Q z => ?_
    rw [map_own]
    exact rd σ H Q z
  · cases h
theorem snd_comp (own : List Nat) (tg : Tg) {it c el : Slim.E} (ii : Snd S CX cls T kws gc k N it) (ic : Snd S CX cls T kws gc k N c) (ie : Snd S CX cls T kws gc k N el) : Snd S CX cls T kws gc k N (.comp own tg it c el) := by
  refine Snd.val (fun _ _ => rfl) (fun _ _ => rfl) (fun _ _ _ => rfl) (fun sc e h env => ?_) fun {E sc asg X} G e h => PE.ofF (pe_comp own tg ii ic ie G e h)
  simp only [chk] at h
  split at h
  · exact fun _ => rfl
  · cases h
theorem snd_all : ∀ m : Slim.E, Snd S CX cls T kws gc k N m
  | .var i => snd_var i
  | .glob x => snd_glob x
  | .lit d => snd_lit d
  | .bin op a b => snd_bin op (snd_all a) (snd_all b)
  | .neg a => snd_neg (snd_all a)
  | .cmp op a b => snd_cmp op (snd_all a) (snd_all b)
  | .chn o1 o2 a b c => snd_chn o1 o2 (snd_all a) (snd_all b) (snd_all c)
  | .and as => snd_and (snd_all as)
  | .or as => snd_or (snd_all as)
  | .not a => snd_not (snd_all a)
  | .ite c a b => snd_ite (snd_all c) (snd_all a) (snd_all b)
  | .tup as => snd_tup (snd_all as)
  | .lst as => snd_lst (snd_all as)
  | .nil => snd_nil
  | .cons a as => snd_cons (snd_all a) (snd_all as)
  | .idx a b => snd_idx (snd_all a) (snd_all b)
  | .slc a lo hi => snd_slc (snd_all a) (snd_all lo) (snd_all hi)
  | .rev a => snd_rev (snd_all a)
  | .call f dk as => snd_call f dk (snd_all as)
  | .callk f ks perm as => snd_callk f ks perm (snd_all as)
  | .blt f as => snd_blt f (snd_all as)
  | .isa t a => snd_isa t (snd_all a)
  | .comp own tg it c el => snd_comp own tg (snd_all it) (snd_all c) (snd_all el)
  | .rng1 a => snd_rng1 (snd_all a)
  | .rng2 a b => snd_rng2 (snd_all a) (snd_all b)
  | .scut j n => snd_scut j n
  | .gget j key => snd_gget j key
  | .gne j key => snd_gne j key
  | .gpop j key => snd_gpop j key
  | .gapp j key a => snd_gapp j key (snd_all a)
  | .enm a => snd_enm (snd_all a)
  | .zp a b => snd_zp (snd_all a) (snd_all b)
end
end Slim

set_option Elab.async false
set_option linter.all false
set_option maxRecDepth 100000
set_option maxHeartbeats 4000000
/-! SLIM 15: new lists. -/
namespace Slim
open PySem PySem.Spec PyProof.Rows L2
section
variable {S : GS} {CX : CXT} {cls : Cls} {T : Tab S} {kws : Str → List (List Str × List Nat)} {gc : Bool} {k : Nat} {E : XK} {N : List Str} {sc : Scope} {asg : Str → Bool} {X : Cx}
theorem FreshAt.back {H H' : Hp} {v : V} {d : D} {bad : Addr → Prop} (f : FreshAt H' v d) (k : Kp bad H H') (n : ∀ p, H' p = none → ¬ bad p) : FreshAt H v d := fun ds e => by
  obtain ⟨p, h1, h2⟩ := f ds e
  exact ⟨p, h1, k.back (n p h2) h2⟩
theorem ER.nb {i : S.I} {B : Addr → Prop} {τ : Sl} {g g' : S.G} {σ : L2.St} {H H1 : Hp} (er : ER S i B τ g σ H) (k : Kp (S.bad i) H H1) (o : S.ok i g' H1) : ∀ p, H1 p = none → ¬ S.bad i p := fun p hp b => (er.dom' k o).new hp (er.sub p b)
theorem opRF {op : Bop} {o : Operator} (h : opB op o = true) (h2 : op = .add ∨ op = .mul) : OpR X (binaryOp o) (rOpF (bop op)) := by
  rcases h2 with rfl | rfl <;> cases o <;> simp only [opB, reduceCtorEq] at h
  · exact r_addF
  · exact r_mulF
theorem pe_new (G : Good S CX cls T kws gc k E N sc asg X) (m : Slim.E) (hn : isNew m = true) (e : Expr) (h : chk N gc kws m sc e = true) : PE X e (tF S T cls E m) := by
  have all : ∀ m : Slim.E, Snd S CX cls T kws gc k N m := fun m => snd_all m
  cases m with
  | comp own tg it c el => exact pe_comp own tg (all it) (all c) (all el) G e h
  | lst as =>
    simp only [chk] at h
    split at h
    · refine PE.by (pe_lst ((all as).pa G _ h)) fun σ H Q z => ?_
      obtain ⟨j, B, τ, g, er, p⟩ := z
      simp only [ev] at p
      refine ⟨j, B, τ, g, er, p.split fun ds g1 vs H1 _ k1 r1 o1 p1 => ?_⟩
      split at p1
      · rename_i hl
        refine ⟨by rw [r1.length]; exact lim_line hl, fun q hq => p1 _ _ (k1.trans (Kp.new hq)) ⟨Rep.newL (er.dom' k1 o1) r1 hq, fun _ _ => ⟨q, rfl, k1.back (er.nb k1 o1 q hq) hq⟩⟩ (GS.same o1 (Kp.new hq))⟩
      · exact p1.elim
    · cases h
  | rev a =>
    simp only [chk] at h
    split at h
    · simp only [Bool.and_eq_true] at h
      obtain ⟨h1, h2⟩ := h
      unfold minus1 at h2
      split at h2
      · have h3 := beq_iff_eq.mp h2
        subst h3
        refine PE.by (pe_revA ((all a).pe G _ h1)) fun σ H Q z => ?_
        obtain ⟨j, B, τ, g, er, p⟩ := z
        simp only [ev] at p
        refine ⟨j, B, τ, g, er, p.split fun d1 g1 v H1 _ k1 r1 o1 p1 => ?_⟩
        cases d1 with
        | list xs =>
          obtain ⟨b, vs, rfl, _, ha, ra⟩ := r1.lstAt
          exact ⟨b, vs, rfl, .inl ⟨SqL.of ha, fun q hq => p1 _ _ (k1.trans (Kp.new hq)) ⟨Rep.newL (er.dom' k1 o1) ra.rev hq, fun _ _ => ⟨q, rfl, k1.back (er.nb k1 o1 q hq) hq⟩⟩ (GS.same o1 (Kp.new hq))⟩⟩
        | tuple xs =>
          obtain ⟨b, vs, rfl, _, ha, ra⟩ := r1.tupAt
          exact ⟨b, vs, rfl, .inr ⟨.inl ha, fun q hq => p1 _ _ (k1.trans (Kp.new hq)) ⟨Rep.newT (er.dom' k1 o1) ra.rev hq, fun _ z => (nomatch z)⟩ (GS.same o1 (Kp.new hq))⟩⟩
        | _ => exact p1.elim
      · cases h2
    · cases h
  | slc a lo hi =>
    simp only [chk] at h
    split at h
    · simp only [Bool.and_eq_true] at h
      refine PE.by (pe_slice r_slc ((all a).pe G _ h.1.1) ((all lo).po G _ h.1.2) ((all hi).po G _ h.2)) fun σ H Q z => ?_
      obtain ⟨j, B, τ, g, er, p⟩ := z
      simp only [ev] at p
      refine ⟨j, B, τ, g, er, p.split fun d1 g1 v H1 _ k1 r1 o1 p1 => ?_⟩
      have er1 := er.step k1 o1
      refine ⟨j, B, τ, g1, er1, (p1.later k1).split fun l g2 w H2 _ k2 r2 o2 p2 => ?_⟩
      subst r2
      have er2 := er1.step k2 o2
      refine ⟨j, B, τ, g2, er2, (p2.later k2).split fun h' g3 u H3 _ k3 r3 o3 p3 => ?_⟩
      subst r3
      obtain ⟨d, e1, q⟩ := p3.of
      have kk := (k1.trans k2).trans k3
      exact ⟨B, d1, d, er2.dom' k3 o3, (r1.keep (er1.kp k2)).keep (er2.kp k3), e1, fun u H4 k4 r4 f4 => q u H4 (k3.trans k4.any) ⟨r4, f4.back kk (er.nb kk o3)⟩ (GS.same o3 k4)⟩
    · cases h
  | bin op a b =>
    have h2 : op = .add ∨ op = .mul := by cases op <;> simp [isNew] at hn <;> simp
    simp only [chk] at h
    split at h
    · simp only [Bool.and_eq_true] at h
      refine PE.by (pe_op (opRF h.1.1 h2) ((all a).pe G _ h.1.2) ((all b).pe G _ h.2)) fun σ H Q z => ?_
      obtain ⟨j, B, τ, g, er, p⟩ := z
      simp only [ev] at p
      refine ⟨j, B, τ, g, er, p.split fun d1 g1 v H1 _ k1 r1 o1 p1 => ?_⟩
      have er1 := er.step k1 o1
      refine ⟨j, B, τ, g1, er1, (p1.later k1).split fun d2 g2 w H2 _ k2 r2 o2 p2 => ?_⟩
      obtain ⟨d, e1, q⟩ := p2.of
      have kk := k1.trans k2
      exact ⟨B, d1, d2, d, er1.dom' k2 o2, r1.keep (er1.kp k2), r2, e1, fun u H3 k3 r3 f3 => q u H3 (k2.trans k3.any) ⟨r3, f3.back kk (er.nb kk o2)⟩ (GS.same o2 k3)⟩
    · cases h
  | blt f as =>
    have rd : ∀ {f0 : D → Option D} {σ : L2.St} {H : Hp} {Q : VK}, blt f = un f0 → tF S T cls E (.blt f as) σ H Q → tCB (rU1F f0) (tA S T cls E as) σ H Q := fun {f0 σ H Q} hb z => by
      obtain ⟨j, B, τ, g, er, p⟩ := z
      simp only [ev] at p
      refine ⟨j, B, τ, g, er, p.split fun ds g1 vs H1 _ k1 r1 o1 p1 => ?_⟩
      obtain ⟨d, e1, q⟩ := p1.of
      rw [hb] at e1
      obtain ⟨d0, rfl, e0⟩ := un_inv e1
      obtain ⟨x, rfl, rx⟩ := Rep.one r1
      exact ⟨B, x, d0, d, rfl, er.dom' k1 o1, rx, e0, fun v H2 k2 r2 f2 => q v H2 (k1.trans k2.any) ⟨r2, f2.back k1 (er.nb k1 o1)⟩ (GS.same o1 k2)⟩
    simp only [chk] at h
    split at h
    · split at h
      · rename_i x es kw pos es' hb
        cases f <;> simp [isNew] at hn <;> simp only [bltB] at hb
        · unfold oneB at hb
          split at hb
          · split at hb
            · rename_i e hq
              cases hb
              simp only [Bool.and_eq_true] at hq
              obtain ⟨p, rfl, h1, h2, h3⟩ := glName_of hq.1
              exact PE.by (pe_callB b_sortF (G.gl h1) (G.blt _ (by decide +kernel)) PyProof.Rows.boot_sorted ((all as).pa G _ h) h3 h2 (star_cons hq.2) rfl) fun σ H Q z => rd rfl z
            · cases hb
          · cases hb
        · unfold oneB at hb
          split at hb
          · split at hb
            · rename_i e hq
              cases hb
              simp only [Bool.and_eq_true] at hq
              obtain ⟨p, rfl, h1, h2, h3⟩ := glName_of hq.1
              exact PE.by (pe_callTy b_lstF (G.gl h1) (G.blt _ (by decide +kernel)) PyProof.Rows.boot_list ((all as).pa G _ h) h3 h2 (star_cons hq.2) rfl) fun σ H Q z => rd rfl z
            · cases hb
          · cases hb
      · cases h
    · cases h
  | _ => simp [isNew] at hn
end
end Slim

set_option Elab.async false
set_option linter.all false
set_option maxRecDepth 100000
set_option maxHeartbeats 4000000
/-! SLIM 15b: several values, new lists among them. -/
namespace Slim
open PySem PySem.Spec PyProof.Rows L2
theorem Rep.olders {bad : Addr → Prop} {H H1 : Hp} (kk : Kp bad H H1) {v : V} {d : D} (r : Rep bad H v d) : ∀ (ps : List Addr) {bad' : Addr → Prop} {d' : D}, (∀ p ∈ ps, H p = none) → Rep bad' H1 v d' → Rep (fun a => bad' a ∨ a ∈ ps) H1 v d'
  | [], bad', d', _, r' => r'.less fun a z => z.elim id fun z => (List.not_mem_nil z).elim
  | p :: ps, bad', d', h, r' => by
    have r1 := r.older (h p (List.mem_cons_self ..)) kk r'
    have r2 := Rep.olders kk r ps (fun q hq => h q (List.mem_cons_of_mem _ hq)) r1
    refine r2.less fun a z => ?_
    rcases z with z | z
    · exact .inl (.inl z)
    · rcases List.mem_cons.mp z with z | z
      · exact .inl (.inr z)
      · exact .inr z
theorem RepAll.olders {bad : Addr → Prop} {H H1 : Hp} (kk : Kp bad H H1) {v : List V} {d : List D} (r : RepAll bad H v d) : ∀ (ps : List Addr) {bad' : Addr → Prop} {d' : List D}, (∀ p ∈ ps, H p = none) → RepAll bad' H1 v d' → RepAll (fun a => bad' a ∨ a ∈ ps) H1 v d'
  | [], bad', d', _, r' => r'.less fun a z => z.elim id fun z => (List.not_mem_nil z).elim
  | p :: ps, bad', d', h, r' => by
    have r1 := r.older (h p (List.mem_cons_self ..)) kk r'
    have r2 := RepAll.olders kk r ps (fun q hq => h q (List.mem_cons_of_mem _ hq)) r1
    refine r2.less fun a z => ?_
    rcases z with z | z
    · exact .inl (.inl z)
    · rcases List.mem_cons.mp z with z | z
      · exact .inl (.inr z)
      · exact .inr z

/-- the values, and among them the new lists ps -/
def NewP (B : Addr → Prop) (H : Hp) : Slim.E → List V → List D → List Addr → Prop
  | .cons a r, v :: vs, d :: ds, ps => (∃ es p ps' xs, svOf a d = .own es ∧ d = .list es ∧ ps = p :: ps' ∧ v = .ref p ∧ H p = some (.lst xs) ∧ RepAll B H xs es ∧ NewP B H r vs ds ps') ∨ (svOf a d = .dat d ∧ Rep B H v d ∧ NewP B H r vs ds ps)
  | .nil, [], [], ps => ps = []
  | _, _, _, _ => False
theorem NewP.less {B B' : Addr → Prop} {H : Hp} (m : ∀ a, B' a → B a) : ∀ {as : Slim.E} {vs : List V} {ds : List D} {ps : List Addr}, NewP B H as vs ds ps → NewP B' H as vs ds ps := by
  intro as
  induction as with
  | nil => intro vs ds ps h; cases vs <;> cases ds <;> exact h
  | cons a r _ ih =>
    intro vs ds ps h
    cases vs with
    | nil => cases ds <;> exact h.elim
    | cons v vs =>
      cases ds with
      | nil => exact h.elim
      | cons d ds =>
        rcases h with ⟨es, p, ps', xs, h1, h2, h3, h4, h5, h6, h7⟩ | ⟨h1, h2, h3⟩
        · exact .inl ⟨es, p, ps', xs, h1, h2, h3, h4, h5, h6.less m, ih h7⟩
        · exact .inr ⟨h1, h2.less m, ih h3⟩
  | _ => intro vs ds ps h; cases vs <;> cases ds <;> exact h.elim
theorem NewP.wide {B B' : Addr → Prop} {H : Hp} (t : ∀ a xs, Rd H a (.tup xs) → ¬ B' a) : ∀ {as : Slim.E} {vs : List V} {ds : List D} {ps : List Addr}, mutsOk as ds = true → NewP B H as vs ds ps → NewP B' H as vs ds ps := by
  intro as
  induction as with
  | nil => intro vs ds ps _ h; cases vs <;> cases ds <;> exact h
  | cons a r _ ih =>
    intro vs ds ps hm h
    cases vs with
    | nil => cases ds <;> exact h.elim
    | cons v vs =>
      cases ds with
      | nil => exact h.elim
      | cons d ds =>
        simp only [mutsOk, Bool.and_eq_true] at hm
        obtain ⟨m1, m2⟩ := hm
        rcases h with ⟨es, p, ps', xs, h1, h2, h3, h4, h5, h6, h7⟩ | ⟨h1, h2, h3⟩
        · subst h2
          refine .inl ⟨es, p, ps', xs, h1, rfl, h3, h4, h5, RepAll.wide t ?_ h6, ih m2 h7⟩
          unfold mutOk at m1
          unfold svOf at h1
          split at h1
          · rename_i hn
            rw [if_pos hn] at m1
            exact m1
          · cases h1
        · refine .inr ⟨h1, Rep.wide t ?_ h2, ih m2 h3⟩
          unfold mutOk at m1
          unfold svOf at h1
          split at h1
          · rename_i hn
            rw [if_pos hn] at m1
            cases d with
            | list es => cases h1
            | _ => exact m1
          · rename_i hn
            rw [if_neg hn] at m1
            exact m1
  | _ => intro vs ds ps _ h; cases vs <;> cases ds <;> exact h.elim
theorem NewP.lists {B : Addr → Prop} {H : Hp} : ∀ {as : Slim.E} {vs : List V} {ds : List D} {ps : List Addr}, NewP B H as vs ds ps → ∀ p ∈ ps, ∃ xs, H p = some (.lst xs) := by
  intro as
  induction as with
  | nil =>
    intro vs ds ps h p hp
    cases vs <;> cases ds <;> first | exact h.elim | (cases h; exact (List.not_mem_nil hp).elim)
  | cons a r _ ih =>
    intro vs ds ps h p hp
    cases vs with
    | nil => cases ds <;> exact h.elim
    | cons v vs =>
      cases ds with
      | nil => exact h.elim
      | cons d ds =>
        rcases h with ⟨es, q, ps', xs, h1, h2, rfl, h4, h5, h6, h7⟩ | ⟨h1, h2, h3⟩
        · rcases List.mem_cons.mp hp with rfl | hp
          · exact ⟨xs, h5⟩
          · exact ih h7 p hp
        · exact ih h3 p hp
  | _ => intro vs ds ps h; cases vs <;> cases ds <;> exact h.elim
theorem NewP.keep {B : Addr → Prop} {H H' : Hp} (k : Kp All H H') : ∀ {as : Slim.E} {vs : List V} {ds : List D} {ps : List Addr}, NewP B H as vs ds ps → NewP B H' as vs ds ps := by
  intro as
  induction as with
  | nil => intro vs ds ps h; cases vs <;> cases ds <;> exact h
  | cons a r _ ih =>
    intro vs ds ps h
    cases vs with
    | nil => cases ds <;> exact h.elim
    | cons v vs =>
      cases ds with
      | nil => exact h.elim
      | cons d ds =>
        rcases h with ⟨es, p, ps', xs, h1, h2, h3, h4, h5, h6, h7⟩ | ⟨h1, h2, h3⟩
        · exact .inl ⟨es, p, ps', xs, h1, h2, h3, h4, k p _ h5 (fun z => z), h6.keep (k.any (bad := B)), ih h7⟩
        · exact .inr ⟨h1, h2.keep (k.any (bad := B)), ih h3⟩
  | _ => intro vs ds ps h; cases vs <;> cases ds <;> exact h.elim
theorem NewP.length {B : Addr → Prop} {H : Hp} : ∀ {as : Slim.E} {vs : List V} {ds : List D} {ps : List Addr}, NewP B H as vs ds ps → vs.length = ds.length := by
  intro as
  induction as with
  | nil => intro vs ds ps h; cases vs <;> cases ds <;> first | rfl | exact h.elim
  | cons a r _ ih =>
    intro vs ds ps h
    cases vs with
    | nil => cases ds <;> exact h.elim
    | cons v vs =>
      cases ds with
      | nil => exact h.elim
      | cons d ds =>
        rcases h with ⟨es, p, ps', xs, h1, h2, h3, h4, h5, h6, h7⟩ | ⟨h1, h2, h3⟩
        · rw [List.length_cons, List.length_cons, ih h7]
        · rw [List.length_cons, List.length_cons, ih h3]
  | _ => intro vs ds ps h; cases vs <;> cases ds <;> exact h.elim
section
variable {S : GS} {CX : CXT} {cls : Cls} {T : Tab S} {kws : Str → List (List Str × List Nat)} {gc : Bool} {k : Nat} {E : XK} {N : List Str} {sc : Scope} {asg : Str → Bool} {X : Cx}
theorem PostX.less {i : S.I} {B B' : Addr → Prop} {H : Hp} {c : Str} {t : D} {g : S.G} (m : ∀ a, B a → B' a) (h : PostX S cls i B H E c t g) : PostX S cls i B' H E c t g := by
  unfold PostX at *
  split at h
  · exact h
  · exact fun dx v H' k1 e1 r1 o1 => h dx v H' k1 e1 (r1.less m) o1

/-- several values: as tA, the new lists told -/
def tN (S : GS) (T : Tab S) (cls : Cls) (E : XK) (m : Slim.E) : TA := fun σ H Q => ∃ i B τ g, ER S i B τ g σ H ∧ Post S cls i B H (fun H' vs ds => ∃ ps : List Addr, ps.Nodup ∧ (∀ p ∈ ps, H p = none) ∧ NewP (fun a => B a ∨ a ∈ ps) H' m vs ds ps) Q E (evs S T m τ g)
theorem tN_cons {a r : Slim.E} {te : TE} (hte : ∀ σ H Q, (if isNew a = true then tF S T cls E a else tE S T cls E a) σ H Q → te σ H Q) {σ : L2.St} {H : Hp} {Q : List V → Hp → Prop} (z : tN S T cls E (.cons a r) σ H Q) : tCons te (tN S T cls E r) σ H Q := by
  obtain ⟨i, B, τ, g, er, p⟩ := z
  simp only [evs] at p
  -- behind the first value
  have main : ∀ d g1 v H1, Kp (S.bad i) H H1 → Rep B H1 v d → (isNew a = true → FreshAt H v d) → S.ok i g1 H1 →
      Post S cls i B H (fun H' vs ds => ∃ ps : List Addr, ps.Nodup ∧ (∀ p ∈ ps, H p = none) ∧ NewP (fun a => B a ∨ a ∈ ps) H' (.cons a r) vs ds ps) Q E ((evs S T r τ g1).bind fun xs g => .ok (d :: xs) g) → tN S T cls E r σ H1 fun xs H2 => Q (v :: xs) H2 := by
    intro d g1 v H1 k1 rv hf o1 p1
    have er1 := er.step k1 o1
    have back : ∀ p, H1 p = none → H p = none := fun p h => k1.back (er.nb k1 o1 p h) h
    by_cases hown : ∃ es, svOf a d = .own es
    · obtain ⟨es, hown⟩ := hown
      have hn : isNew a = true ∧ d = .list es := by
        unfold svOf at hown
        split at hown
        · rename_i hn
          cases d with
          | list ds => cases hown; exact ⟨hn, rfl⟩
          | _ => cases hown
        · cases hown
      obtain ⟨hn, rfl⟩ := hn
      obtain ⟨q, rfl, hq⟩ := hf hn es rfl
      obtain ⟨q', xs, e, nb, hx, rx⟩ := rv.lstAt
      cases e
      have kB : Kp B H H1 := er.kp k1
      have er2 : ER S i (fun a => B a ∨ a = q) τ g1 σ H1 := ⟨o1, fun a h => .inl (er.sub a h), fun a h => by
          rcases h with h | rfl
          · exact er1.dom a h
          · exact ⟨_, hx, nt_lst⟩,
        fun j d' h => by
          obtain ⟨w, h1, h2⟩ := er.sl j d' h
          exact ⟨w, h1, h2.older hq kB (h2.keep kB)⟩, er.dk, er.len, fun x a d h => (er.zs x a d h).older hq kB ((er.zs x a d h).keep kB)⟩
      refine ⟨i, fun a => B a ∨ a = q, τ, g1, er2, ?_⟩
      cases hr : evs S T r τ g1 with
      | no => rw [hr] at p1; exact p1.elim
      | ex c t g2 => rw [hr] at p1; exact PostX.less (fun a h => .inl h) (PostX.later p1 k1)
      | ok xs' g2 =>
        rw [hr] at p1
        intro vs H2 k2 hN o2
        obtain ⟨ps, nd, fr, np⟩ := hN
        have nq : ¬ S.bad i q := fun z => nb (er.sub q z)
        have hq2 := k2 q _ hx nq
        refine p1 (.ref q :: vs) H2 (k1.trans k2) ⟨q :: ps, List.nodup_cons.mpr ⟨fun z => (by have := fr q z; rw [hx] at this; cases this), nd⟩, fun p hp => ?_, ?_⟩ o2
        · rcases List.mem_cons.mp hp with rfl | hp
          · exact hq
          · exact back p (fr p hp)
        · have lessB : ∀ a, (B a ∨ a ∈ q :: ps) → ((B a ∨ a = q) ∨ a ∈ ps) := fun a z => by
            rcases z with z | z
            · exact .inl (.inl z)
            · rcases List.mem_cons.mp z with z | z
              · exact .inl (.inr z)
              · exact .inr z
          have k2B : Kp (fun a => B a ∨ a = q) H1 H2 := k2.mono fun a h => .inl (er.sub a h)
          have rs := RepAll.self nb hx rx
          refine .inl ⟨es, q, ps, xs, hown, rfl, rfl, rfl, hq2, ?_, np.less lessB⟩
          exact (RepAll.olders k2B rs ps fr (rs.keep k2B)).less lessB
    · have hdat : svOf a d = .dat d := by
        unfold svOf at hown ⊢
        split
        · rename_i hn
          rw [if_pos hn] at hown
          cases d with
          | list es => exact absurd ⟨es, rfl⟩ hown
          | _ => rfl
        · rfl
      refine ⟨i, B, τ, g1, er1, ?_⟩
      cases hr : evs S T r τ g1 with
      | no => rw [hr] at p1; exact p1.elim
      | ex c t g2 => rw [hr] at p1; exact PostX.later p1 k1
      | ok xs' g2 =>
        rw [hr] at p1
        intro vs H2 k2 hN o2
        obtain ⟨ps, nd, fr, np⟩ := hN
        have k2B : Kp B H1 H2 := er1.kp k2
        exact p1 (v :: vs) H2 (k1.trans k2) ⟨ps, nd, fun p hp => back p (fr p hp), .inr ⟨hdat, Rep.olders k2B rv ps fr (rv.keep k2B), np⟩⟩ o2
  refine hte _ _ _ ?_
  split
  · rename_i hn
    exact ⟨i, B, τ, g, er, p.split fun d g1 v H1 _ k1 r1 o1 p1 => main d g1 v H1 k1 r1.1 (fun _ => r1.2) o1 p1⟩
  · rename_i hn
    exact ⟨i, B, τ, g, er, p.split fun d g1 v H1 _ k1 r1 o1 p1 => main d g1 v H1 k1 r1 (fun z => absurd z hn) o1 p1⟩
theorem pa_news (G : Good S CX cls T kws gc k E N sc asg X) : ∀ (m : Slim.E) (es : List Expr), chkA N gc kws m sc es = true → PA X es (tN S T cls E m) := by
  intro m
  induction m with
  | nil =>
    intro es h
    rw [chkA_nil h]
    refine PA.by pa_nil fun σ H Q z => ?_
    obtain ⟨i, B, τ, g, er, p⟩ := z
    exact p [] H Kp.refl ⟨[], List.nodup_nil, fun _ h => (List.not_mem_nil h).elim, rfl⟩ er.ok
  | cons a r _ ih =>
    intro es h
    obtain ⟨e, r', rfl, h1, h2, h3⟩ := chkA_cons h
    by_cases hn : isNew a = true
    · refine PA.by (pa_cons (pe_new G a hn e h2) (ih r' h3) (star_cons h1)) fun σ H Q z => tN_cons (fun σ H Q z => by rw [if_pos hn] at z; exact z) z
    · refine PA.by (pa_cons ((snd_all a).pe G e h2) (ih r' h3) (star_cons h1)) fun σ H Q z => tN_cons (fun σ H Q z => by rw [if_neg hn] at z; exact z) z
  | _ => intro es h; simp only [chkA] at h; cases h
end
end Slim

set_option Elab.async false
set_option linter.all false
set_option maxRecDepth 100000
set_option maxHeartbeats 4000000
/-! SLIM 16: the slots of a def while it runs. -/
namespace Slim
open PySem PySem.Spec PyProof.Rows L2


/-- what is not to be met: what was bad at the entry, the def's own lists but those that rd reads -/
def Bad (B0 : Addr → Prop) (ad : Nat → Option Addr) (rd : List Nat) : Addr → Prop := fun a => B0 a ∨ ∃ j, ad j = some a ∧ rd.contains j = false

/-- what is held beside the slots: what a loop goes over, the constants -/
def GH (S : GS) (Gh : V → D → Prop) (v : V) (d : D) : Prop := Gh v d ∨ ∃ x a, S.cs x = some (a, d) ∧ v = .ref a
structure SR (S : GS) (i : S.I) (B0 : Addr → Prop) (H0 : Hp) (Gh : V → D → Prop) (ad : Nat → Option Addr) (τ : Sl) (g : S.G) (σ : L2.St) (H : Hp) : Prop where
  ok : S.ok i g H
  sub : ∀ a, S.bad i a → B0 a
  dom : Dom B0 H0
  kp : Kp (S.bad i) H0 H
  new : ∀ j p, ad j = some p → H0 p = none ∧ ∃ xs, H p = some (.lst xs)
  inj : ∀ j l p, ad j = some p → ad l = some p → j = l
  sl : ∀ (j : Nat) d, τ[j]? = some (.dat d) → ∃ v, σ[j]? = some (some v) ∧ Rep (Bad B0 ad []) H v d
  ow : ∀ (j : Nat) ds, τ[j]? = some (.own ds) → ∃ p xs, ad j = some p ∧ σ[j]? = some (some (.ref p)) ∧ H p = some (.lst xs) ∧ RepAll (Bad B0 ad []) H xs ds
  dk : ∀ (j : Nat), τ[j]? = some SV.dk → σ[j]? = some (some (S.val i))
  gh : ∀ v d, GH S Gh v d → Rep (Bad B0 ad []) H v d
  len : τ.length = σ.length
section
variable {S : GS} {i : S.I} {B0 : Addr → Prop} {H0 : Hp} {Gh : V → D → Prop} {ad : Nat → Option Addr} {τ : Sl} {g g' : S.G} {σ : L2.St} {H H' : Hp}
theorem nil_contains (j : Nat) : ([] : List Nat).contains j = false := rfl
theorem Bad.le {rd : List Nat} {a : Addr} (h : Bad B0 ad rd a) : Bad B0 ad [] a := h.imp id fun ⟨j, h1, _⟩ => ⟨j, h1, rfl⟩
theorem SR.nb0 (r : SR S i B0 H0 Gh ad τ g σ H) {p : Addr} (h : H0 p = none) : ¬ B0 p := r.dom.new h
theorem SR.nbs (r : SR S i B0 H0 Gh ad τ g σ H) {p : Addr} (h : H0 p = none) : ¬ S.bad i p := fun z => r.nb0 h (r.sub p z)
theorem SR.dom1 (r : SR S i B0 H0 Gh ad τ g σ H) : Dom (Bad B0 ad []) H := fun a h => by
  rcases h with h | ⟨j, h, _⟩
  · by_cases hb : S.bad i a
    · exact S.chg i g H a r.ok hb
    · obtain ⟨o, h1, h2⟩ := r.dom a h
      exact ⟨o, r.kp a o h1 hb, h2⟩
  · obtain ⟨_, xs, hx⟩ := r.new j a h
    exact ⟨_, hx, nt_lst⟩
theorem SR.subB (r : SR S i B0 H0 Gh ad τ g σ H) (rd : List Nat) : ∀ a, S.bad i a → Bad B0 ad rd a := fun a h => .inl (r.sub a h)

/-- nothing of the slots has changed -/
theorem SR.step (r : SR S i B0 H0 Gh ad τ g σ H) (k : Kp (S.bad i) H H') (o : S.ok i g' H') : SR S i B0 H0 Gh ad τ g' σ H' where
  ok := o
  sub := r.sub
  dom := r.dom
  kp := r.kp.trans k
  new := fun j p h => let ⟨h1, xs, hx⟩ := r.new j p h; ⟨h1, xs, k p _ hx (r.nbs h1)⟩
  inj := r.inj
  sl := fun j d h => let ⟨v, h1, h2⟩ := r.sl j d h; ⟨v, h1, h2.keep (k.mono (r.subB []))⟩
  ow := fun j ds h => let ⟨p, xs, h1, h2, h3, h4⟩ := r.ow j ds h; ⟨p, xs, h1, h2, k p _ h3 (r.nbs (r.new j p h1).1), h4.keep (k.mono (r.subB []))⟩
  dk := r.dk
  gh := fun v d h => (r.gh v d h).keep (k.mono (r.subB []))
  len := r.len
theorem viewAt_get (rd : List Nat) : ∀ (τ : Sl) (n j : Nat), (viewAt rd n τ)[j]? = (τ[j]?).map fun sv => match sv with
    | .own ds => if rd.contains (n + j) then .dat (.list ds) else .un
    | x => x
  | [], n, j => by simp [viewAt]
  | sv :: τ, n, 0 => by
    simp only [viewAt, List.getElem?_cons_zero, Option.map_some, Nat.add_zero]
    all_goals (cases sv <;> rfl)
  | sv :: τ, n, j + 1 => by
    simp only [viewAt, List.getElem?_cons_succ]
    rw [viewAt_get rd τ (n + 1) j]
    have e : n + 1 + j = n + (j + 1) := by omega
    rw [e]
theorem frzAt_get (rd : List Nat) : ∀ (τ : Sl) (n j : Nat), (frzAt rd n τ)[j]? = (τ[j]?).map fun sv => match sv with
    | .own ds => if rd.contains (n + j) then .dat (.list ds) else .own ds
    | x => x
  | [], n, j => by simp [frzAt]
  | sv :: τ, n, 0 => by
    simp only [frzAt, List.getElem?_cons_zero, Option.map_some, Nat.add_zero]
    all_goals (cases sv <;> rfl)
  | sv :: τ, n, j + 1 => by
    simp only [frzAt, List.getElem?_cons_succ]
    rw [frzAt_get rd τ (n + 1) j]
    have e : n + 1 + j = n + (j + 1) := by omega
    rw [e]
theorem view_get (rd : List Nat) (τ : Sl) (j : Nat) : (view rd τ)[j]? = (τ[j]?).map fun sv => match sv with
    | .own ds => if rd.contains j then .dat (.list ds) else .un
    | x => x := by
  unfold view
  rw [viewAt_get]
  simp only [Nat.zero_add]
theorem frz_get (rd : List Nat) (τ : Sl) (j : Nat) : (frz rd τ)[j]? = (τ[j]?).map fun sv => match sv with
    | .own ds => if rd.contains j then .dat (.list ds) else .own ds
    | x => x := by
  unfold frz
  rw [frzAt_get]
  simp only [Nat.zero_add]
theorem viewAt_len (rd : List Nat) : ∀ (τ : Sl) (n : Nat), (viewAt rd n τ).length = τ.length
  | [], _ => rfl
  | _ :: τ, n => by simp [viewAt, viewAt_len rd τ (n + 1)]
theorem frzAt_len (rd : List Nat) : ∀ (τ : Sl) (n : Nat), (frzAt rd n τ).length = τ.length
  | [], _ => rfl
  | _ :: τ, n => by simp [frzAt, frzAt_len rd τ (n + 1)]

/-- an own list that is read, as a datum -/
theorem SR.readOwn (r : SR S i B0 H0 Gh ad τ g σ H) {rd : List Nat} {j : Nat} {p : Addr} {xs : List V} {ds : List D} (h1 : ad j = some p) (h3 : H p = some (.lst xs)) (h4 : RepAll (Bad B0 ad []) H xs ds) (hr : rd.contains j = true) : Rep (Bad B0 ad rd) H (.ref p) (.list ds) := by
  refine .lst (fun z => ?_) h3 (h4.less fun a h => h.le)
  rcases z with z | ⟨l, h5, h6⟩
  · exact r.nb0 (r.new j p h1).1 z
  · rw [r.inj j l p h1 h5, h6] at hr; cases hr
theorem SR.er (r : SR S i B0 H0 Gh ad τ g σ H) (rd : List Nat) : ER S i (Bad B0 ad rd) (view rd τ) g σ H where
  zs := fun x a d e => (r.gh (.ref a) d (.inr ⟨x, a, e, rfl⟩)).less fun c h => h.le
  ok := r.ok
  sub := r.subB rd
  dom := fun a h => r.dom1 a h.le
  sl := fun j d h => by
    unfold getD at h
    rw [view_get] at h
    cases e : τ[j]? with
    | none => rw [e] at h; cases h
    | some sv =>
      rw [e] at h
      cases sv with
      | un => cases h
      | dk => cases h
      | dat d' =>
        cases h
        obtain ⟨v, h1, h2⟩ := r.sl j _ e
        exact ⟨v, h1, h2.less fun a h => h.le⟩
      | own ds =>
        simp only [Option.map_some] at h
        by_cases hr : rd.contains j = true
        · rw [if_pos hr] at h
          cases h
          obtain ⟨p, xs, h1, h2, h3, h4⟩ := r.ow j ds e
          exact ⟨.ref p, h2, r.readOwn h1 h3 h4 hr⟩
        · rw [if_neg hr] at h; cases h
  dk := fun j h => by
    rw [view_get] at h
    cases e : τ[j]? with
    | none => rw [e] at h; cases h
    | some sv =>
      rw [e] at h
      cases sv with
      | dk => exact r.dk j e
      | own ds =>
        simp only [Option.map_some] at h
        split at h <;> cases h
      | _ => cases h
  len := by unfold view; rw [viewAt_len, r.len]

/-- the own lists among rd become data -/
theorem SR.froze (r : SR S i B0 H0 Gh ad τ g σ H) (rd : List Nat) : ∃ ad', SR S i B0 H0 Gh ad' (frz rd τ) g σ H ∧ (∀ a, Bad B0 ad' [] a ↔ Bad B0 ad rd a) ∧ ∀ j p, ad' j = some p → ad j = some p := by
  have hb : ∀ a, Bad B0 (fun j => if rd.contains j = true then none else ad j) [] a ↔ Bad B0 ad rd a := fun a => by
    constructor
    · rintro (h | ⟨j, h, _⟩)
      · exact .inl h
      · simp only at h
        split at h
        · cases h
        · rename_i hh
          exact .inr ⟨j, h, Bool.eq_false_iff.mpr hh⟩
    · rintro (h | ⟨j, h, h2⟩)
      · exact .inl h
      · refine .inr ⟨j, ?_, rfl⟩
        simp only [h2, Bool.false_eq_true, if_false]
        exact h
  have hs : ∀ j p, (fun j => if rd.contains j = true then none else ad j) j = some p → ad j = some p := fun j p h => by
    simp only at h
    split at h
    · cases h
    · exact h
  have le : ∀ a, Bad B0 (fun j => if rd.contains j = true then none else ad j) [] a → Bad B0 ad [] a := fun a h => ((hb a).mp h).le
  refine ⟨fun j => if rd.contains j = true then none else ad j, ⟨r.ok, r.sub, r.dom, r.kp, fun j p h => r.new j p (hs j p h), fun j l p h1 h2 => r.inj j l p (hs j p h1) (hs l p h2), fun j d h => ?_, fun j ds h => ?_, fun j h => ?_, fun v d h => (r.gh v d h).less le, by unfold frz; rw [frzAt_len, r.len]⟩, hb, hs⟩
  · rw [frz_get] at h
    cases e : τ[j]? with
    | none => rw [e] at h; cases h
    | some sv =>
      rw [e] at h
      cases sv with
      | dat d' =>
        cases h
        obtain ⟨v, h1, h2⟩ := r.sl j _ e
        exact ⟨v, h1, h2.less le⟩
      | own ds =>
        simp only [Option.map_some] at h
        by_cases hr : rd.contains j = true
        · rw [if_pos hr] at h
          cases h
          obtain ⟨p, xs, h1, h2, h3, h4⟩ := r.ow j ds e
          exact ⟨.ref p, h2, (r.readOwn h1 h3 h4 hr).less fun a h => (hb a).mp h⟩
        · rw [if_neg hr] at h; cases h
      | _ => cases h
  · rw [frz_get] at h
    cases e : τ[j]? with
    | none => rw [e] at h; cases h
    | some sv =>
      rw [e] at h
      cases sv with
      | own ds' =>
        simp only [Option.map_some] at h
        by_cases hr : rd.contains j = true
        · rw [if_pos hr] at h; cases h
        · rw [if_neg hr] at h
          cases h
          obtain ⟨p, xs, h1, h2, h3, h4⟩ := r.ow j ds e
          exact ⟨p, xs, by simp only [hr]; exact h1, h2, h3, h4.less le⟩
      | _ => cases h
  · rw [frz_get] at h
    cases e : τ[j]? with
    | none => rw [e] at h; cases h
    | some sv =>
      rw [e] at h
      cases sv with
      | dk => exact r.dk j e
      | own ds =>
        simp only [Option.map_some] at h
        split at h <;> cases h
      | _ => cases h

/-- behind an expression: its value is a datum beside the slots -/
theorem SR.aft (r : SR S i B0 H0 Gh ad τ g σ H) (rd : List Nat) (ok : Bool) (R : (Addr → Prop) → Prop) (hw : ok = true → R (Bad B0 ad rd) → R (Bad B0 ad [])) (hl : ∀ B B' : Addr → Prop, (∀ a, B' a → B a) → R B → R B') (h : R (Bad B0 ad rd)) :
    ∃ ad', SR S i B0 H0 Gh ad' (Slim.aft rd ok τ) g σ H ∧ R (Bad B0 ad' []) ∧ ∀ j p, ad' j = some p → ad j = some p := by
  cases ok with
  | true => exact ⟨ad, r, hw rfl h, fun _ _ h => h⟩
  | false =>
    obtain ⟨ad', r', hb, hs⟩ := r.froze rd
    exact ⟨ad', r', hl _ _ (fun a h => (hb a).mp h) h, hs⟩
theorem SR.aftD (r : SR S i B0 H0 Gh ad τ g σ H) {rd : List Nat} {v : V} {d : D} (h : Rep (Bad B0 ad rd) H v d) : ∃ ad', SR S i B0 H0 Gh ad' (Slim.aft rd (noMut d) τ) g σ H ∧ Rep (Bad B0 ad' []) H v d ∧ ∀ j p, ad' j = some p → ad j = some p :=
  r.aft rd (noMut d) (fun B => Rep B H v d) (fun e h => h.wide (fun a xs ha z => by obtain ⟨o, h1, h2⟩ := r.dom1 a z; exact h2.no h1 ha) e) (fun B B' m h => h.less m) h
theorem SR.aftL (r : SR S i B0 H0 Gh ad τ g σ H) {rd : List Nat} {v : List V} {d : List D} (h : RepAll (Bad B0 ad rd) H v d) : ∃ ad', SR S i B0 H0 Gh ad' (Slim.aft rd (noMutAll d) τ) g σ H ∧ RepAll (Bad B0 ad' []) H v d ∧ ∀ j p, ad' j = some p → ad j = some p :=
  r.aft rd (noMutAll d) (fun B => RepAll B H v d) (fun e h => h.wide (fun a xs ha z => by obtain ⟨o, h1, h2⟩ := r.dom1 a z; exact h2.no h1 ha) e) (fun B B' m h => h.less m) h

/-- a datum into a slot -/
theorem SR.put (r : SR S i B0 H0 Gh ad τ g σ H) {n : Nat} {v : V} {d : D} (h : Rep (Bad B0 ad []) H v d) : ∃ ad', SR S i B0 H0 Gh ad' (τ.set n (.dat d)) g (σ.set n (some v)) H ∧ ∀ j p, ad' j = some p → ad j = some p := by
  have hs : ∀ j p, (fun j => if j = n then none else ad j) j = some p → ad j = some p := fun j p h => by
    simp only at h
    split at h
    · cases h
    · exact h
  have le : ∀ a, Bad B0 (fun j => if j = n then none else ad j) [] a → Bad B0 ad [] a := fun a h => h.imp id fun ⟨j, h1, h2⟩ => ⟨j, hs j a h1, h2⟩
  refine ⟨fun j => if j = n then none else ad j, ⟨r.ok, r.sub, r.dom, r.kp, fun j p h => r.new j p (hs j p h), fun j l p h1 h2 => r.inj j l p (hs j p h1) (hs l p h2), fun j d' hj => ?_, fun j ds hj => ?_, fun j hj => ?_, fun v d h => (r.gh v d h).less le, by rw [List.length_set, List.length_set, r.len]⟩, hs⟩
  · by_cases e : n = j
    · subst e
      by_cases hl : n < τ.length
      · rw [List.getElem?_set_self hl] at hj
        cases hj
        exact ⟨v, by rw [List.getElem?_set_self (by rw [← r.len]; exact hl)], h.less le⟩
      · rw [List.getElem?_eq_none (by simpa using Nat.not_lt.mp hl)] at hj; cases hj
    · rw [List.getElem?_set_ne e] at hj ⊢
      obtain ⟨w, h1, h2⟩ := r.sl j d' hj
      exact ⟨w, h1, h2.less le⟩
  · by_cases e : n = j
    · subst e
      by_cases hl : n < τ.length
      · rw [List.getElem?_set_self hl] at hj; cases hj
      · rw [List.getElem?_eq_none (by simpa using Nat.not_lt.mp hl)] at hj; cases hj
    · rw [List.getElem?_set_ne e] at hj ⊢
      obtain ⟨p, xs, h1, h2, h3, h4⟩ := r.ow j ds hj
      exact ⟨p, xs, by simp only [if_neg (Ne.symm e)]; exact h1, h2, h3, h4.less le⟩
  · by_cases e : n = j
    · subst e
      by_cases hl : n < τ.length
      · rw [List.getElem?_set_self hl] at hj; cases hj
      · rw [List.getElem?_eq_none (by simpa using Nat.not_lt.mp hl)] at hj; cases hj
    · rw [List.getElem?_set_ne e] at hj ⊢
      exact r.dk j hj

/-- a new list into a slot: the def's own -/
theorem SR.putOwn (r : SR S i B0 H0 Gh ad τ g σ H) {n : Nat} {p : Addr} {xs : List V} {ds : List D} (hp0 : H0 p = none) (hn : ∀ j, ad j ≠ some p) (hx : H p = some (.lst xs)) (h : RepAll (fun a => Bad B0 ad [] a ∨ a = p) H xs ds)
    (hsl : ∀ (v : V) d, Rep (Bad B0 ad []) H v d → (∃ j : Nat, σ[j]? = some (some v) ∧ τ[j]? = some (.dat d)) → Rep (fun a => Bad B0 ad [] a ∨ a = p) H v d)
    (hol : ∀ (q : Addr) ys es, (∃ j, ad j = some q ∧ τ[j]? = some (.own es)) → RepAll (Bad B0 ad []) H ys es → H q = some (.lst ys) → RepAll (fun a => Bad B0 ad [] a ∨ a = p) H ys es)
    (hgl : ∀ v d, GH S Gh v d → Rep (fun a => Bad B0 ad [] a ∨ a = p) H v d) :
    SR S i B0 H0 Gh (fun j => if j = n then some p else ad j) (τ.set n (.own ds)) g (σ.set n (some (.ref p))) H := by
  have le : ∀ a, Bad B0 (fun j => if j = n then some p else ad j) [] a → Bad B0 ad [] a ∨ a = p := fun a h => by
    rcases h with h | ⟨j, h1, h2⟩
    · exact .inl (.inl h)
    · simp only at h1
      split at h1
      · cases h1; exact .inr rfl
      · exact .inl (.inr ⟨j, h1, h2⟩)
  refine ⟨r.ok, r.sub, r.dom, r.kp, fun j q h => ?_, fun j l q h1 h2 => ?_, fun j d' hj => ?_, fun j es hj => ?_, fun j hj => ?_, fun v d h => (hgl v d h).less le, by rw [List.length_set, List.length_set, r.len]⟩
  · have h' : (if j = n then some p else ad j) = some q := h
    split at h'
    · cases h'; exact ⟨hp0, xs, hx⟩
    · exact r.new j q h'
  · have h1' : (if j = n then some p else ad j) = some q := h1
    have h2' : (if l = n then some p else ad l) = some q := h2
    split at h1'
    · cases h1'
      split at h2'
      · omega
      · exact absurd h2' (hn l)
    · split at h2'
      · cases h2'; exact absurd h1' (hn j)
      · exact r.inj j l q h1' h2'
  · by_cases e : n = j
    · subst e
      by_cases hl : n < τ.length
      · rw [List.getElem?_set_self hl] at hj; cases hj
      · rw [List.getElem?_eq_none (by simpa using Nat.not_lt.mp hl)] at hj; cases hj
    · rw [List.getElem?_set_ne e] at hj ⊢
      obtain ⟨w, h1, h2⟩ := r.sl j d' hj
      exact ⟨w, h1, (hsl w d' h2 ⟨j, h1, hj⟩).less le⟩
  · by_cases e : n = j
    · subst e
      by_cases hl : n < τ.length
      · rw [List.getElem?_set_self hl] at hj
        cases hj
        exact ⟨p, xs, if_pos rfl, by rw [List.getElem?_set_self (by rw [← r.len]; exact hl)], hx, h.less le⟩
      · rw [List.getElem?_eq_none (by simpa using Nat.not_lt.mp hl)] at hj; cases hj
    · rw [List.getElem?_set_ne e] at hj ⊢
      obtain ⟨q, ys, h1, h2, h3, h4⟩ := r.ow j es hj
      exact ⟨q, ys, by simp only [if_neg (Ne.symm e)]; exact h1, h2, h3, (hol q ys es ⟨j, h1, hj⟩ h4 h3).less le⟩
  · by_cases e : n = j
    · subst e
      by_cases hl : n < τ.length
      · rw [List.getElem?_set_self hl] at hj; cases hj
      · rw [List.getElem?_eq_none (by simpa using Nat.not_lt.mp hl)] at hj; cases hj
    · rw [List.getElem?_set_ne e] at hj ⊢
      exact r.dk j hj

/-- an own list is changed -/
theorem SR.chgOwn (r : SR S i B0 H0 Gh ad τ g σ H) {n : Nat} {p : Addr} {xs xs' : List V} {ds' : List D} (hp : ad n = some p) (hx : H p = some (.lst xs)) (hv : σ[n]? = some (some (.ref p))) (h : RepAll (Bad B0 ad []) H xs' ds') :
    SR S i B0 H0 Gh ad (τ.set n (.own ds')) g σ (upd H p (.lst xs')) := by
  have h0 := (r.new n p hp).1
  have bp : Bad B0 ad [] p := .inr ⟨n, hp, rfl⟩
  have kk : Kp (Bad B0 ad []) H (upd H p (.lst xs')) := fun b o e nb => by
    rw [upd_ne (fun z => nb (by rw [z]; exact bp))]; exact e
  refine ⟨?_, r.sub, r.dom, fun b o e nb => ?_, fun j q h => ?_, r.inj, fun j d' hj => ?_, fun j es hj => ?_, fun j hj => ?_, fun v d h => (r.gh v d h).keep kk, by rw [List.length_set, r.len]⟩
  · refine S.stay i g H _ r.ok fun a o ba e => ?_
    rw [upd_ne (fun z => r.nbs h0 (by rw [← z]; exact ba))]; exact e
  · have hne : b ≠ p := fun z => by rw [z, h0] at e; cases e
    rw [upd_ne hne]; exact r.kp b o e nb
  · obtain ⟨h1, ys, h2⟩ := r.new j q h
    by_cases e : q = p
    · subst e; exact ⟨h1, _, upd_same⟩
    · exact ⟨h1, ys, by rw [upd_ne e]; exact h2⟩
  · have e : n ≠ j := fun e => by
      subst e
      by_cases hl : n < τ.length
      · rw [List.getElem?_set_self hl] at hj; cases hj
      · rw [List.getElem?_eq_none (by simpa using Nat.not_lt.mp hl)] at hj; cases hj
    rw [List.getElem?_set_ne e] at hj
    obtain ⟨w, h1, h2⟩ := r.sl j d' hj
    exact ⟨w, h1, h2.keep kk⟩
  · by_cases e : n = j
    · subst e
      by_cases hl : n < τ.length
      · rw [List.getElem?_set_self hl] at hj
        cases hj
        exact ⟨p, xs', hp, hv, upd_same, h.keep kk⟩
      · rw [List.getElem?_eq_none (by simpa using Nat.not_lt.mp hl)] at hj; cases hj
    · rw [List.getElem?_set_ne e] at hj
      obtain ⟨q, ys, h1, h2, h3, h4⟩ := r.ow j es hj
      have hqp : q ≠ p := fun z => e (r.inj n j p hp (by rw [← z]; exact h1))
      exact ⟨q, ys, h1, h2, by rw [upd_ne hqp]; exact h3, h4.keep kk⟩
  · have e : n ≠ j := fun e => by
      subst e
      by_cases hl : n < τ.length
      · rw [List.getElem?_set_self hl] at hj; cases hj
      · rw [List.getElem?_eq_none (by simpa using Nat.not_lt.mp hl)] at hj; cases hj
    rw [List.getElem?_set_ne e] at hj
    exact r.dk j hj
theorem aft_get {rd : List Nat} {ok : Bool} {τ : Sl} {j : Nat} : (aft rd ok τ)[j]? = τ[j]? ∨ ∃ ds, τ[j]? = some (.own ds) ∧ (aft rd ok τ)[j]? = some (.dat (.list ds)) ∧ rd.contains j = true := by
  unfold aft
  split
  · exact .inl rfl
  · rw [frz_get]
    cases e : τ[j]? with
    | none => exact .inl rfl
    | some sv =>
      cases sv with
      | own ds =>
        simp only [Option.map_some]
        by_cases h : rd.contains j = true
        · rw [if_pos h]; exact .inr ⟨ds, rfl, rfl, h⟩
        · rw [if_neg h]; exact .inl rfl
      | _ => exact .inl rfl

/-- an expression's new list into a slot -/
theorem SR.newOwn (r : SR S i B0 H0 Gh ad τ g σ H) {rd : List Nat} {n : Nat} {p : Addr} {xs : List V} {ds : List D} (k : Kp (S.bad i) H H') (o : S.ok i g' H') (hp : H p = none) (hx : H' p = some (.lst xs)) (hl : RepAll (Bad B0 ad rd) H' xs ds) :
    ∃ ad', SR S i B0 H0 Gh ad' ((Slim.aft rd (noMutAll ds) τ).set n (.own ds)) g' (σ.set n (some (.ref p))) H' := by
  have r1 := r.step k o
  have nb : ¬ S.bad i p := fun z => r.dom1.new hp (.inl (r.sub p z))
  have kB : ∀ rd, Kp (Bad B0 ad rd) H H' := fun rd => k.mono (r.subB rd)
  obtain ⟨ad', r2, h2, hs⟩ := r1.aftL hl
  have hn : ∀ j, ad' j ≠ some p := fun j z => by
    obtain ⟨_, ys, hy⟩ := r.new j p (hs j p z)
    rw [hp] at hy; cases hy
  have hp0 : H0 p = none := r.kp.back nb hp
  have nB : ¬ Bad B0 ad' [] p := fun z => by
    rcases z with z | ⟨j, h, _⟩
    · exact r.nb0 hp0 z
    · exact hn j h
  refine ⟨_, r2.putOwn hp0 hn hx (h2.self nB hx) (fun v d hv hj => ?_) (fun q ys es hq hr hy => ?_) fun v d h => (r.gh v d h).older hp (kB []) (r2.gh v d h)⟩
  · obtain ⟨j, hj1, hj2⟩ := hj
    rcases aft_get (rd := rd) (ok := noMutAll ds) (τ := τ) (j := j) with e | ⟨es, e1, e2, _⟩
    · rw [e] at hj2
      obtain ⟨w, h3, h4⟩ := r.sl j d hj2
      rw [hj1] at h3
      cases h3
      exact h4.older hp (kB []) hv
    · rw [e2] at hj2
      cases hj2
      obtain ⟨q, ys, h3, h4, h5, h6⟩ := r.ow j es e1
      rw [hj1] at h4
      cases h4
      exact (r.readOwn (rd := [j]) h3 h5 h6 (by simp)).older hp (kB [j]) hv
  · obtain ⟨j, hq1, hq2⟩ := hq
    rcases aft_get (rd := rd) (ok := noMutAll ds) (τ := τ) (j := j) with e | ⟨es', e1, e2, _⟩
    · rw [e] at hq2
      obtain ⟨q', ys', h3, h4, h5, h6⟩ := r.ow j es hq2
      have e3 : q' = q := by
        have := hs j q hq1
        rw [h3] at this
        exact Option.some.inj this
      subst e3
      have e4 := k q' _ h5 (r.nbs (r.new j q' h3).1)
      rw [hy] at e4
      cases e4
      exact h6.older hp (kB []) hr
    · rw [e2] at hq2; cases hq2
end
end Slim

set_option Elab.async false
set_option linter.all false
set_option maxRecDepth 100000
set_option maxHeartbeats 4000000
/-! SLIM 16b: several values into slots. -/
namespace Slim
open PySem PySem.Spec PyProof.Rows L2

/-- as SR, with new lists that have no slot yet -/
structure SRx (S : GS) (i : S.I) (B0 : Addr → Prop) (H0 : Hp) (Gh : V → D → Prop) (ad : Nat → Option Addr) (ps : List Addr) (τ : Sl) (g : S.G) (σ : L2.St) (H : Hp) : Prop where
  ok : S.ok i g H
  sub : ∀ a, S.bad i a → B0 a
  dom : Dom B0 H0
  kp : Kp (S.bad i) H0 H
  new : ∀ j p, ad j = some p → H0 p = none ∧ ∃ xs, H p = some (.lst xs)
  inj : ∀ j l p, ad j = some p → ad l = some p → j = l
  zn : ∀ p ∈ ps, H0 p = none ∧ (∀ j, ad j ≠ some p)
  sl : ∀ (j : Nat) d, τ[j]? = some (.dat d) → ∃ v, σ[j]? = some (some v) ∧ Rep (fun a => Bad B0 ad [] a ∨ a ∈ ps) H v d
  ow : ∀ (j : Nat) ds, τ[j]? = some (.own ds) → ∃ p xs, ad j = some p ∧ σ[j]? = some (some (.ref p)) ∧ H p = some (.lst xs) ∧ RepAll (fun a => Bad B0 ad [] a ∨ a ∈ ps) H xs ds
  dk : ∀ (j : Nat), τ[j]? = some SV.dk → σ[j]? = some (some (S.val i))
  gh : ∀ v d, GH S Gh v d → Rep (fun a => Bad B0 ad [] a ∨ a ∈ ps) H v d
  len : τ.length = σ.length
section
variable {S : GS} {i : S.I} {B0 : Addr → Prop} {H0 : Hp} {Gh : V → D → Prop} {ad : Nat → Option Addr} {ps : List Addr} {τ : Sl} {g g' : S.G} {σ : L2.St} {H H' : Hp}
theorem set_get {α : Type} {l : List α} {n j : Nat} {x y : α} (h : (l.set n x)[j]? = some y) : (n = j ∧ y = x ∧ n < l.length) ∨ (n ≠ j ∧ l[j]? = some y) := by
  by_cases e : n = j
  · subst e
    by_cases hl : n < l.length
    · rw [List.getElem?_set_self hl] at h
      exact .inl ⟨rfl, (Option.some.inj h).symm, hl⟩
    · rw [List.getElem?_eq_none (by simpa using Nat.not_lt.mp hl)] at h
      cases h
  · rw [List.getElem?_set_ne e] at h
    exact .inr ⟨e, h⟩
theorem SRx.put (r : SRx S i B0 H0 Gh ad ps τ g σ H) {n : Nat} {v : V} {d : D} (h : Rep (fun a => Bad B0 ad [] a ∨ a ∈ ps) H v d) :
    ∃ ad', SRx S i B0 H0 Gh ad' ps (τ.set n (.dat d)) g (σ.set n (some v)) H ∧ ∀ j p, ad' j = some p → ad j = some p := by
  have hs : ∀ j p, (fun j => if j = n then none else ad j) j = some p → ad j = some p := fun j p h => by
    have h' : (if j = n then none else ad j) = some p := h
    split at h'
    · cases h'
    · exact h'
  have le : ∀ a, (Bad B0 (fun j => if j = n then none else ad j) [] a ∨ a ∈ ps) → (Bad B0 ad [] a ∨ a ∈ ps) := fun a z => z.imp (fun z => z.imp id fun ⟨j, h1, h2⟩ => ⟨j, hs j a h1, h2⟩) id
  refine ⟨fun j => if j = n then none else ad j, ⟨r.ok, r.sub, r.dom, r.kp, fun j p h => r.new j p (hs j p h), fun j l p h1 h2 => r.inj j l p (hs j p h1) (hs l p h2), fun p hp => ⟨(r.zn p hp).1, fun j z => (r.zn p hp).2 j (hs j p z)⟩, fun j d' hj => ?_, fun j ds hj => ?_, fun j hj => ?_, fun v d h => (r.gh v d h).less le, by rw [List.length_set, List.length_set, r.len]⟩, hs⟩
  · rcases set_get hj with ⟨rfl, e, hl⟩ | ⟨e, hj⟩
    · cases e
      exact ⟨v, List.getElem?_set_self (by rw [← r.len]; exact hl), h.less le⟩
    · obtain ⟨w, h1, h2⟩ := r.sl j d' hj
      exact ⟨w, by rw [List.getElem?_set_ne e]; exact h1, h2.less le⟩
  · rcases set_get hj with ⟨rfl, e, hl⟩ | ⟨e, hj⟩
    · cases e
    · obtain ⟨p, xs, h1, h2, h3, h4⟩ := r.ow j ds hj
      exact ⟨p, xs, by simp only [if_neg (Ne.symm e)]; exact h1, by rw [List.getElem?_set_ne e]; exact h2, h3, h4.less le⟩
  · rcases set_get hj with ⟨rfl, e, hl⟩ | ⟨e, hj⟩
    · cases e
    · rw [List.getElem?_set_ne e]
      exact r.dk j hj
theorem SRx.putOwn {p : Addr} (r : SRx S i B0 H0 Gh ad (p :: ps) τ g σ H) (nd : p ∉ ps) {n : Nat} {xs : List V} {ds : List D} (hx : H p = some (.lst xs)) (h : RepAll (fun a => Bad B0 ad [] a ∨ a ∈ p :: ps) H xs ds) :
    ∃ ad', SRx S i B0 H0 Gh ad' ps (τ.set n (.own ds)) g (σ.set n (some (.ref p))) H ∧ ∀ a, (Bad B0 ad' [] a ∨ a ∈ ps) → (Bad B0 ad [] a ∨ a ∈ p :: ps) := by
  have hp := r.zn p (List.mem_cons_self ..)
  have cs : ∀ j q, (fun j => if j = n then some p else ad j) j = some q → (j = n ∧ q = p) ∨ (j ≠ n ∧ ad j = some q) := fun j q h => by
    have h' : (if j = n then some p else ad j) = some q := h
    split at h'
    · rename_i e; exact .inl ⟨e, (Option.some.inj h').symm⟩
    · rename_i e; exact .inr ⟨e, h'⟩
  have le : ∀ a, (Bad B0 (fun j => if j = n then some p else ad j) [] a ∨ a ∈ ps) → (Bad B0 ad [] a ∨ a ∈ p :: ps) := fun a z => by
    rcases z with (z | ⟨j, h1, h2⟩) | z
    · exact .inl (.inl z)
    · rcases cs j a h1 with ⟨_, rfl⟩ | ⟨_, e⟩
      · exact .inr (List.mem_cons_self ..)
      · exact .inl (.inr ⟨j, e, h2⟩)
    · exact .inr (List.mem_cons_of_mem _ z)
  refine ⟨fun j => if j = n then some p else ad j, ⟨r.ok, r.sub, r.dom, r.kp, fun j q h => ?_, fun j l q h1 h2 => ?_, fun q hq => ⟨(r.zn q (List.mem_cons_of_mem _ hq)).1, fun j z => ?_⟩, fun j d' hj => ?_, fun j es hj => ?_, fun j hj => ?_, fun v d h => (r.gh v d h).less le, by rw [List.length_set, List.length_set, r.len]⟩, le⟩
  · rcases cs j q h with ⟨_, rfl⟩ | ⟨_, e⟩
    · exact ⟨hp.1, xs, hx⟩
    · exact r.new j q e
  · rcases cs j q h1 with ⟨e1, rfl⟩ | ⟨_, e⟩
    · rcases cs l _ h2 with ⟨e2, _⟩ | ⟨_, e⟩
      · rw [e1, e2]
      · exact absurd e (hp.2 l)
    · rcases cs l q h2 with ⟨_, rfl⟩ | ⟨_, e'⟩
      · exact absurd e (hp.2 j)
      · exact r.inj j l q e e'
  · rcases cs j q z with ⟨_, rfl⟩ | ⟨_, e⟩
    · exact nd hq
    · exact (r.zn q (List.mem_cons_of_mem _ hq)).2 j e
  · rcases set_get hj with ⟨rfl, e, hl⟩ | ⟨e, hj⟩
    · cases e
    · obtain ⟨w, h1, h2⟩ := r.sl j d' hj
      exact ⟨w, by rw [List.getElem?_set_ne e]; exact h1, h2.less le⟩
  · rcases set_get hj with ⟨rfl, e, hl⟩ | ⟨e, hj⟩
    · cases e
      exact ⟨p, xs, if_pos rfl, List.getElem?_set_self (by rw [← r.len]; exact hl), hx, h.less le⟩
    · obtain ⟨q, ys, h1, h2, h3, h4⟩ := r.ow j es hj
      exact ⟨q, ys, by simp only [if_neg (Ne.symm e)]; exact h1, by rw [List.getElem?_set_ne e]; exact h2, h3, h4.less le⟩
  · rcases set_get hj with ⟨rfl, e, hl⟩ | ⟨e, hj⟩
    · cases e
    · rw [List.getElem?_set_ne e]
      exact r.dk j hj
theorem SRx.done (r : SRx S i B0 H0 Gh ad [] τ g σ H) : SR S i B0 H0 Gh ad τ g σ H := by
  have le : ∀ a, Bad B0 ad [] a → (Bad B0 ad [] a ∨ a ∈ ([] : List Addr)) := fun _ h => .inl h
  exact ⟨r.ok, r.sub, r.dom, r.kp, r.new, r.inj, fun j d h => let ⟨v, h1, h2⟩ := r.sl j d h; ⟨v, h1, h2.less le⟩, fun j ds h => let ⟨p, xs, h1, h2, h3, h4⟩ := r.ow j ds h; ⟨p, xs, h1, h2, h3, h4.less le⟩, r.dk, fun v d h => (r.gh v d h).less le, r.len⟩

/-- the values' slots -/
def putV : List Nat → List V → L2.St → L2.St
  | j :: js, v :: vs, σ => putV js vs (σ.set j (some v))
  | _, _, σ => σ
theorem SRx.puts : ∀ {as : Slim.E} {js : List Nat} {vs : List V} {ds : List D} {ad : Nat → Option Addr} {ps : List Addr} {τ : Sl} {σ : L2.St}, ps.Nodup → js.length = ds.length → SRx S i B0 H0 Gh ad ps τ g σ H → NewP (fun a => Bad B0 ad [] a ∨ a ∈ ps) H as vs ds ps →
    ∃ ad', SR S i B0 H0 Gh ad' (putS js (svsOf as ds) τ) g (putV js vs σ) H := by
  intro as
  induction as with
  | nil =>
    intro js vs ds ad ps τ σ nd hl r h
    cases vs with
    | nil =>
      cases ds with
      | nil =>
        cases js with
        | nil => cases h; exact ⟨ad, r.done⟩
        | cons _ _ => cases hl
      | cons _ _ => exact h.elim
    | cons _ _ => cases ds <;> exact h.elim
  | cons a r' _ ih =>
    intro js vs ds ad ps τ σ nd hl r h
    cases vs with
    | nil => cases ds <;> exact h.elim
    | cons v vs =>
      cases ds with
      | nil => exact h.elim
      | cons d ds =>
        cases js with
        | nil => cases hl
        | cons j js =>
          have hl' : js.length = ds.length := by simpa using hl
          rcases h with ⟨es, p, ps', xs, h1, rfl, rfl, rfl, h5, h6, h7⟩ | ⟨h1, h2, h3⟩
          · obtain ⟨n1, n2⟩ := List.nodup_cons.mp nd
            obtain ⟨ad', r2, le⟩ := r.putOwn (n := j) n1 h5 h6
            simp only [svsOf, putS, putV, h1]
            exact ih n2 hl' r2 (h7.less le)
          · obtain ⟨ad', r2, hs⟩ := r.put (n := j) h2
            simp only [svsOf, putS, putV, h1]
            exact ih nd hl' r2 (h3.less fun a z => z.imp (fun z => z.imp id fun ⟨l, e1, e2⟩ => ⟨l, hs l a e1, e2⟩) id)
  | _ => intro js vs ds ad ps τ σ nd hl r h; cases vs <;> cases ds <;> exact h.elim

/-- behind several values -/
theorem SR.news (r : SR S i B0 H0 Gh ad τ g σ H) {as : Slim.E} {js : List Nat} {vs : List V} {ds : List D} {rd : List Nat} {ps : List Addr} (k : Kp (S.bad i) H H') (o : S.ok i g' H') (nd : ps.Nodup) (fr : ∀ p ∈ ps, H p = none) (hl : js.length = ds.length)
    (h : NewP (fun a => Bad B0 ad rd a ∨ a ∈ ps) H' as vs ds ps) : ∃ ad', SR S i B0 H0 Gh ad' (putS js (svsOf as ds) (Slim.aft rd (mutsOk as ds) τ)) g' (putV js vs σ) H' := by
  have r1 := r.step k o
  have kB : ∀ rd, Kp (Bad B0 ad rd) H H' := fun rd => k.mono (r.subB rd)
  have nbs : ∀ p ∈ ps, ¬ S.bad i p := fun p hp z => r.dom1.new (fr p hp) (.inl (r.sub p z))
  have fr0 : ∀ p ∈ ps, H0 p = none := fun p hp => r.kp.back (nbs p hp) (fr p hp)
  -- the new lists stand in the heap
  obtain ⟨ad', r2, h2, hs⟩ := r1.aft rd (mutsOk as ds) (fun B => NewP (fun a => B a ∨ a ∈ ps) H' as vs ds ps) (fun e h => NewP.wide (fun a xs ha z => by
    rcases z with z | z
    · obtain ⟨ob, e1, e2⟩ := r1.dom1 a z
      exact e2.no e1 ha
    · obtain ⟨ys, hy⟩ := NewP.lists h a z
      exact rd_lst ha hy) e h) (fun B B' m h => h.less fun a z => z.imp (m a) id) h
  have hn : ∀ p ∈ ps, ∀ j, ad' j ≠ some p := fun p hp j z => by
    obtain ⟨_, ys, hy⟩ := r.new j p (hs j p z)
    rw [fr p hp] at hy; cases hy
  refine SRx.puts nd hl ⟨r2.ok, r2.sub, r2.dom, r2.kp, r2.new, r2.inj, fun p hp => ⟨fr0 p hp, hn p hp⟩, fun j d hj => ?_, fun j es hj => ?_, r2.dk, fun v d hv => (r.gh v d hv).olders (kB []) ps fr (r2.gh v d hv), r2.len⟩ h2
  · obtain ⟨v, h3, h4⟩ := r2.sl j d hj
    refine ⟨v, h3, ?_⟩
    rcases aft_get (rd := rd) (ok := mutsOk as ds) (τ := τ) (j := j) with e | ⟨es, e1, e2, _⟩
    · rw [e] at hj
      obtain ⟨w, h5, h6⟩ := r.sl j d hj
      rw [h3] at h5
      cases h5
      exact h6.olders (kB []) ps fr h4
    · rw [e2] at hj
      cases hj
      obtain ⟨q, ys, h5, h6, h7, h8⟩ := r.ow j es e1
      rw [h3] at h6
      cases h6
      exact (r.readOwn (rd := [j]) h5 h7 h8 (by simp)).olders (kB [j]) ps fr h4
  · obtain ⟨q, ys, h3, h4, h5, h6⟩ := r2.ow j es hj
    refine ⟨q, ys, h3, h4, h5, ?_⟩
    rcases aft_get (rd := rd) (ok := mutsOk as ds) (τ := τ) (j := j) with e | ⟨es', e1, e2, _⟩
    · rw [e] at hj
      obtain ⟨q', ys', h7, h8, h9, h10⟩ := r.ow j es hj
      have e3 : q' = q := by
        have := hs j q h3
        rw [h7] at this
        exact Option.some.inj this
      subst e3
      have e4 := k q' _ h9 (r.nbs (r.new j q' h7).1)
      rw [h5] at e4
      cases e4
      exact h10.olders (kB []) ps fr h6
    · rw [e2] at hj; cases hj
end
end Slim

set_option Elab.async false
set_option linter.all false
set_option maxRecDepth 100000
set_option maxHeartbeats 4000000
/-! SLIM 17: the look at statements; the promise of a statement. -/
namespace Slim
open PySem PySem.Spec PyProof.Rows L2
def notComp : Expr → Bool
  | .ListComp _ _ _ _ | .SetComp _ _ _ _ | .DictComp _ _ _ _ _ => false
  | _ => true
theorem swaps_false {v : Expr} (h : notComp v = true) (t : Option Expr) (l : Nat) (env : Env) : swapsWith v t l env = pure false := by
  cases v <;> first | (simp only [notComp, Bool.false_eq_true] at h; done) | rfl

/-- a, b = x, y stored name by name -/
def parB (N : List Str) (sc : Scope) (is : List Nat) (ts vs : List Expr) : Bool := match is, ts, vs with
  | [i, j], [.Name x px, .Name y py], [a, b] => decide (N[i]? = some x) && decide (N[j]? = some y) && decide (sc.names.lookup x = some .local) && decide (sc.names.lookup y = some .local) && decide (i ≠ j) && (px.line == py.line) &&
      noStar a && noStar b && !([a, b].all (foldedForSure 8)) && !([a, b].all (constantsAlone 8))
  | [i, j, l], [.Name x px, .Name y py, .Name z pz], [a, b, c] => decide (N[i]? = some x) && decide (N[j]? = some y) && decide (N[l]? = some z) && decide (sc.names.lookup x = some .local) && decide (sc.names.lookup y = some .local) && decide (sc.names.lookup z = some .local) &&
      decide (i ≠ j) && decide (i ≠ l) && decide (j ≠ l) && (px.line == py.line) && (px.line == pz.line) && noStar a && noStar b && noStar c && !([a, b, c].all (foldedForSure 8)) && !([a, b, c].all (constantsAlone 8))
  | _, _, _ => false

/-- a target list that is stored as a whole -/
def notLoc (sc : Scope) : Expr → Bool
  | .Name x _ => !decide (sc.names.lookup x = some .local)
  | _ => true
def wholeB (sc : Scope) (tg : Expr) : Expr → Bool
  | .Tuple vs _ _ => (decide (vs.length ≠ 2) && decide (vs.length ≠ 3)) || vs.all (foldedForSure 8) || (match tg with
    | .Tuple es _ _ => es.any (notLoc sc)
    | _ => false)
  | _ => true

/-- names, stored one after another -/
def namesB (N : List Str) (sc : Scope) : List Nat → List Expr → Bool
  | [], [] => true
  | i :: is, .Name x _ :: ts => decide (N[i]? = some x) && blkAsg sc x && namesB N sc is ts
  | _, _ => false
def nmTup : Expr → Bool
  | .Name _ _ | .Tuple _ _ _ => true
  | _ => false
def isTupE : Expr → Bool
  | .Tuple _ _ _ => true
  | _ => false
section
variable (N : List Str) (gc : Bool) (kws : Str → List (List Str × List Nat)) (sc : Scope)
def tgB : Slim.E → List Expr → Bool
  | .nil, [] => true
  | .cons (.var i) r, .Name x _ :: ts => decide (N[i]? = some x) && blkAsg sc x && tgB r ts
  | .cons (.idx (.var j) k) r, .Subscript (.Name x _) y _ :: ts => varB N sc j x && noSlice y && chk N gc kws k sc y && tgB r ts
  | _, _ => false
mutual
def chk1 : Slim.S → Stmt → Bool
  | .asg i e, st => (match st with
    | .Assign [.Name x _] v _ => decide (N[i]? = some x) && blkAsg sc x && chk N gc kws e sc v
    | _ => false)
  | .par is as, st => (match st with
    | .Assign [.Tuple ts k1 p1] (.Tuple vs k2 p2) _ => (parB N sc is ts vs || (namesB N sc is ts && wholeB sc (.Tuple ts k1 p1) (.Tuple vs k2 p2) && decide (is.length ≤ 100))) && chkA N gc kws as sc vs
    | _ => false)
  | .asgt t e, st => (match st with
    | .Assign [tg] v _ => isTupE tg && chkT N (blkAsg sc) t tg && chk N gc kws e sc v && notComp v && wholeB sc tg v
    | _ => false)
  | .exp e, st => (match st with
    | .Expr v _ => chk N gc kws e sc v && notComp v
    | _ => false)
  | .app i e, st => (match st with
    | .Expr (.Call (.Attribute (.Name x _) a apos) [v] [] cpos) _ => decide (a = "append") && varB N sc i x && noStar v && chk N gc kws e sc v && (apos.endLine == cpos.line)
    | _ => false)
  | .ext i e, st => (match st with
    | .Expr (.Call (.Attribute (.Name x _) a apos) [v] [] cpos) _ => decide (a = "extend") && varB N sc i x && noStar v && chk N gc kws e sc v && (apos.endLine == cpos.line)
    | _ => false)
  | .popt t i, st => (match st with
    | .Assign [tg] (.Call (.Attribute (.Name x _) a apos) [] [] cpos) _ => decide (a = "pop") && nmTup tg && varB N sc i x && chkT N (blkAsg sc) t tg && (apos.endLine == cpos.line)
    | _ => false)
  | .pmx ts as, st => (match st with
    | .Assign [.Tuple tgs k1 p1] (.Tuple vs k2 p2) _ => tgB N gc kws sc ts tgs && wholeB sc (.Tuple tgs k1 p1) (.Tuple vs k2 p2) && decide (tgs.length ≤ 100) && decide (tgs.length = vs.length) && chkA N gc kws as sc vs
    | _ => false)
  | .set i k e, st => (match st with
    | .Assign [.Subscript (.Name x _) y _] v _ => varB N sc i x && noSlice y && chk N gc kws k sc y && chk N gc kws e sc v && notComp v
    | _ => false)
  | .gset j key e, st => (match st with
    | .Assign [x] v _ => gB N sc j key x && chk N gc kws e sc v && notComp v
    | _ => false)
  | .ret e, st => (match st with
    | .Return (some v) _ => chk N gc kws e sc v
    | _ => false)
  | .retn, st => (match st with
    | .Return none _ => true
    | _ => false)
  | .ife c a b, st => (match st with
    | .If x y z _ => chk N gc kws c sc x && chks a y && chks b z
    | _ => false)
  | .whl c b, st => (match st with
    | .While x y [] _ => chk N gc kws c sc x && chks b y
    | _ => false)
  | .for_ t it b, st => (match st with
    | .For tg iter y [] _ => chkT N (blkAsg sc) t tg && chkI N gc kws it sc tg iter && chks b y
    | _ => false)
  | .brk, st => (match st with
    | .Break _ => true
    | _ => false)
  | .cnt, st => (match st with
    | .Continue _ => true
    | _ => false)
  | .pass, st => (match st with
    | .Pass _ => true
    | .Expr (.Constant (.str _) _ _) _ => true
    | _ => false)
  | .fail, _ => true
  | .nil, _ => false
  | .cons _ _, _ => false
def chks : Slim.S → List Stmt → Bool
  | .nil, sts => sts.isEmpty
  | .cons s r, sts => (match sts with
    | st :: rest => chk1 s st && chks r rest
    | [] => false)
  | _, _ => false
end
end

/-- what is wanted behind a statement's result -/
def PostS (S : GS) (cls : Cls) (i : S.I) (B0 : Addr → Prop) (H0 : Hp) (Gh : V → D → Prop) (E : XK) (Dn : Ends) : Out S → Prop
  | .nx τ g => ∀ ad σ H, SR S i B0 H0 Gh ad τ g σ H → Dn.nx σ H
  | .bk τ g => ∀ ad σ H, SR S i B0 H0 Gh ad τ g σ H → Dn.bk σ H
  | .ct τ g => ∀ ad σ H, SR S i B0 H0 Gh ad τ g σ H → Dn.ct σ H
  | .rt d g => ∀ v H, Kp (S.bad i) H0 H → Rep B0 H v d → S.ok i g H → Dn.rt v H
  | .ex c t g => PostX S cls i B0 H0 E c t g
  | .no => False
def tS (S : GS) (T : Tab S) (cls : Cls) (E : XK) (n : Nat) (m : Slim.S) : TS := fun Dn σ H => ∃ i B0 H0 Gh ad τ g, SR S i B0 H0 Gh ad τ g σ H ∧ PostS S cls i B0 H0 Gh E Dn (run T n m τ g)
section
variable {S : GS} {CX : CXT} {cls : Cls} {T : Tab S} {kws : Str → List (List Str × List Nat)} {gc : Bool} {k : Nat} {E : XK} {N : List Str} {sc : Scope} {X : Cx}
variable {i : S.I} {B0 : Addr → Prop} {H0 : Hp} {Gh : V → D → Prop} {ad : Nat → Option Addr} {τ : Sl} {g g' : S.G} {σ : L2.St} {H H' : Hp} {Dn : Ends}
theorem PS.by {X : Cx} {e : Stmt} {t t' : TS} (h : PS X e t) (i : ∀ D σ H, t' D σ H → t D σ H) : PS X e t' := ⟨fun pins s σ H D I z => h.run pins s σ H D I (i D σ H z)⟩
theorem PSs.by {X : Cx} {e : List Stmt} {t t' : TS} (h : PSs X e t) (i : ∀ D σ H, t' D σ H → t D σ H) : PSs X e t' := ⟨fun pins s σ H D I z => h.run pins s σ H D I (i D σ H z)⟩
theorem PS.no {X : Cx} {e : Stmt} : PS X e (fun _ _ _ => False) := ⟨fun _ _ _ _ _ _ z => z.elim⟩

/-- an exception within the def is one out of the def -/
theorem PostX.lift {rd : List Nat} {c : Str} {t : D} {g : S.G} (r : SR S i B0 H0 Gh ad τ g' σ H) (h : PostX S cls i B0 H0 E c t g) : PostX S cls i (Bad B0 ad rd) H E c t g := by
  unfold PostX at *
  split at h
  · exact h
  · exact fun dx v H' k1 e1 r1 o1 => h dx v H' (r.kp.trans k1) e1 (r1.less fun a h => .inl h) o1

/-- an expression in a def's statement -/
theorem SR.eval {α β : Type} (r : SR S i B0 H0 Gh ad τ g σ H) {rd : List Nat} {res : Res S α} {R : Hp → β → α → Prop} {Q : β → Hp → Prop} {f : α → S.G → Out S} (h : PostS S cls i B0 H0 Gh E Dn (res.out f))
    (q : ∀ a g1 v H1, Kp (S.bad i) H H1 → R H1 v a → S.ok i g1 H1 → SR S i B0 H0 Gh ad τ g1 σ H1 → PostS S cls i B0 H0 Gh E Dn (f a g1) → Q v H1) : Post S cls i (Bad B0 ad rd) H R Q E res := by
  cases res with
  | ok a g1 => exact fun v H1 k1 r1 o1 => q a g1 v H1 k1 r1 o1 (r.step k1 o1) h
  | ex c t g1 => exact PostX.lift r h
  | no => exact h
end
end Slim

set_option Elab.async false
set_option linter.all false
set_option maxRecDepth 100000
set_option maxHeartbeats 4000000
/-! SLIM 18: assignments. -/
namespace Slim
open PySem PySem.Spec PyProof.Rows L2
section
variable {S : GS} {CX : CXT} {cls : Cls} {T : Tab S} {kws : Str → List (List Str × List Nat)} {gc : Bool} {k : Nat} {E : XK} {N : List Str} {sc : Scope} {X : Cx}
variable {i : S.I} {B0 : Addr → Prop} {H0 : Hp} {Gh : V → D → Prop} {ad : Nat → Option Addr} {τ : Sl} {g g' : S.G} {σ : L2.St} {H H' : Hp} {Dn : Ends}

/-- a statement keeps its promise -/
structure SndS (S : GS) (CX : CXT) (cls : Cls) (T : Tab S) (kws : Str → List (List Str × List Nat)) (gc : Bool) (k : Nat) (N : List Str) (n : Nat) (m : Slim.S) : Prop where
  one : ∀ {E sc X}, Good S CX cls T kws gc k E N sc (blkAsg sc) X → PassesOwn (model X.prog X.w) X.A X.env X.xe → ∀ st, chk1 N gc kws sc m st = true → PS X st (tS S T cls E n m)
  all : ∀ {E sc X}, Good S CX cls T kws gc k E N sc (blkAsg sc) X → PassesOwn (model X.prog X.w) X.A X.env X.xe → ∀ sts, chks N gc kws sc m sts = true → PSs X sts (tS S T cls E n m)
theorem SndS.stmt {n : Nat} {m : Slim.S} (h : ∀ sc sts, chks N gc kws sc m sts = false) (one : ∀ {E sc X}, Good S CX cls T kws gc k E N sc (blkAsg sc) X → PassesOwn (model X.prog X.w) X.A X.env X.xe → ∀ st, chk1 N gc kws sc m st = true → PS X st (tS S T cls E n m)) :
    SndS S CX cls T kws gc k N n m := ⟨one, fun {_ sc _} _ _ sts z => by rw [h sc sts] at z; cases z⟩

/-- the slots behind x = e -/
theorem SR.asg (r : SR S i B0 H0 Gh ad τ g σ H) {e : Slim.E} {n : Nat} {v : V} {d : D} (k : Kp (S.bad i) H H') (o : S.ok i g' H') (h : Rep (Bad B0 ad (rds e)) H' v d) (f : isNew e = true → FreshAt H v d) : ∃ ad', SR S i B0 H0 Gh ad' (asgS e n d τ) g' (σ.set n (some v)) H' := by
  have dat : ∃ ad', SR S i B0 H0 Gh ad' ((Slim.aft (rds e) (noMut d) τ).set n (.dat d)) g' (σ.set n (some v)) H' := by
    obtain ⟨ad', r', h', _⟩ := (r.step k o).aftD h
    obtain ⟨ad2, r2, _⟩ := r'.put (n := n) h'
    exact ⟨ad2, r2⟩
  unfold asgS
  split
  · rename_i hn
    cases d with
    | list ds =>
      obtain ⟨p, rfl, hp⟩ := f hn ds rfl
      obtain ⟨a, xs, e1, _, ha, ra⟩ := h.lstAt
      cases e1
      exact r.newOwn k o hp ha ra
    | _ => exact dat
  · exact dat
theorem asg_read {n : Nat} {e : Slim.E} {m : Nat} (hn : isNew e = true) (z : tS S T cls E m (.asg n e) Dn σ H) : tF S T cls E e σ H fun x H1 => Dn.nx (σ.set n (some x)) H1 := by
  obtain ⟨i, B0, H0, Gh, ad, τ, g, r, p⟩ := z
  simp only [run, evV] at p
  refine ⟨i, Bad B0 ad (rds e), view (rds e) τ, g, r.er _, r.eval p fun d g1 v H1 k1 r1 o1 _ p1 => ?_⟩
  obtain ⟨ad', r'⟩ := r.asg (n := n) k1 o1 r1.1 fun _ => r1.2
  exact p1 ad' _ _ r'
theorem asg_readE {n : Nat} {e : Slim.E} {m : Nat} (hn : isNew e = false) (z : tS S T cls E m (.asg n e) Dn σ H) : tE S T cls E e σ H fun x H1 => Dn.nx (σ.set n (some x)) H1 := by
  obtain ⟨i, B0, H0, Gh, ad, τ, g, r, p⟩ := z
  simp only [run, evV] at p
  refine ⟨i, Bad B0 ad (rds e), view (rds e) τ, g, r.er _, r.eval p fun d g1 v H1 k1 r1 o1 _ p1 => ?_⟩
  obtain ⟨ad', r'⟩ := r.asg (n := n) k1 o1 r1 fun z => by rw [hn] at z; cases z
  exact p1 ad' _ _ r'
theorem swaps_comp {elt : Expr} {gs : List Comprehension} {scope : Scope} {pos py : Pos} {y : Str} {l : Nat} {env : Env} (hk : env.scope.kind = .function) : swapsWith (.ListComp elt gs scope pos) (some (.Name y py)) l env =
    pure (env.kindOf y == some .local && py.line == pos.line && !(scope.names.any fun (n, k) => n == y && (k == .local || k == .cell))) := by
  have hb : env.blockKind = .function := by unfold Env.blockKind; rw [hk]; rfl
  unfold swapsWith
  simp only [hb, Expr.pos]
  rfl
theorem loc_of {x : Str} {i : Nat} (G : Good S CX cls T kws gc k E N sc (blkAsg sc) X) (h1 : N[i]? = some x) (h2 : blkAsg sc x = true) : X.N.Nodup ∧ X.N[i]? = some x ∧ Loc X.env.scope x ∧ (X.fn x = true ∨ X.env.scope.names.lookup x = some .local) := by
  obtain ⟨h3, h4⟩ := G.asg x h2
  exact ⟨by rw [G.hN]; exact G.nd, by rw [G.hN]; exact h1, h3, h4⟩
theorem sndS_asg (n : Nat) (j : Nat) (e : Slim.E) : SndS S CX cls T kws gc k N n (.asg j e) := by
  refine SndS.stmt (fun _ _ => rfl) fun {E sc X} G hp st h => ?_
  simp only [chk1] at h
  split at h
  · rename_i x px v pos
    simp only [Bool.and_eq_true, decide_eq_true_eq] at h
    obtain ⟨⟨h1, h2⟩, hc⟩ := h
    obtain ⟨l1, l2, l3, l4⟩ := loc_of G h1 h2
    by_cases hnc : notComp v = true
    · cases hn : isNew e with
      | true => exact PS.by (ps_set l1 l2 l3 (pe_new G e hn v hc) (swaps_false hnc _ _ _) l4) fun D σ H z => asg_read hn z
      | false => exact PS.by (ps_set l1 l2 l3 ((snd_all e).pe G v hc) (swaps_false hnc _ _ _) l4) fun D σ H z => asg_readE hn z
    · -- a comprehension
      cases e with
      | comp own tg it c el =>
        have hc' := hc
        simp only [chk] at hc
        split at hc
        · rename_i elt t iter ifs scope cpos
          have hk : X.env.scope.kind = .function := by rw [G.scp]; exact G.kf
          cases hb : (X.env.kindOf x == some .local && px.line == cpos.line && !(scope.names.any fun (n, k) => n == x && (k == .local || k == .cell))) with
          | false => exact PS.by (ps_set l1 l2 l3 (pe_new G (.comp own tg it c el) rfl _ hc') (by rw [swaps_comp hk, hb]) l4) fun D σ H z => asg_read rfl z
          | true =>
            have hl : X.env.scope.names.lookup x = some .local := by
              simp only [Bool.and_eq_true, beq_iff_eq] at hb
              exact hb.1.1
            obtain ⟨tt, p1, ok, p2, p3, p4, p5, rd⟩ := comp_parts own tg (snd_all it) (snd_all c) (snd_all el) G hc'
            refine PS.by (ps_setLc (own := ownOf N own) (i := j) G.calm l1 l2 hl (by rw [swaps_comp hk, hb]) p1 (by rw [G.hN, G.scp]; exact ok) p2 p3 p4 p5) fun D σ H z => ?_
            rw [map_own]
            exact rd σ H _ (asg_read rfl z)
        · cases hc
      | _ => 
        exfalso
        simp only [chk] at hc
        cases v <;> simp [notComp] at hnc <;> first | (simp at hc; done) | (simp [gB] at hc; done)
  · cases h
theorem sndS_ret (n : Nat) (e : Slim.E) : SndS S CX cls T kws gc k N n (.ret e) := by
  refine SndS.stmt (fun _ _ => rfl) fun {E sc X} G hp st h => ?_
  simp only [chk1] at h
  split at h
  · refine PS.by (ps_ret ((snd_all e).pe G _ h)) fun D σ H z => ?_
    obtain ⟨i, B0, H0, Gh, ad, τ, g, r, p⟩ := z
    simp only [run, evV] at p
    exact ⟨i, Bad B0 ad (rds e), view (rds e) τ, g, r.er _, r.eval p fun d g1 v H1 k1 r1 o1 r2 p1 => p1 v H1 r2.kp (r1.less fun a h => .inl h) o1⟩
  · cases h
theorem sndS_retn (n : Nat) : SndS S CX cls T kws gc k N n .retn := by
  refine SndS.stmt (fun _ _ => rfl) fun {E sc X} G hp st h => ?_
  simp only [chk1] at h
  split at h
  · refine PS.by ps_retN fun D σ H z => ?_
    obtain ⟨i, B0, H0, Gh, ad, τ, g, r, p⟩ := z
    simp only [run] at p
    exact p .non H r.kp .non r.ok
  · cases h
theorem sndS_exp (n : Nat) (e : Slim.E) : SndS S CX cls T kws gc k N n (.exp e) := by
  refine SndS.stmt (fun _ _ => rfl) fun {E sc X} G hp st h => ?_
  simp only [chk1] at h
  split at h
  · simp only [Bool.and_eq_true] at h
    refine PS.by (ps_expr ((snd_all e).pe G _ h.1) (swaps_false h.2 _ _ _)) fun D σ H z => ?_
    obtain ⟨i, B0, H0, Gh, ad, τ, g, r, p⟩ := z
    simp only [run, evV] at p
    exact ⟨i, Bad B0 ad (rds e), view (rds e) τ, g, r.er _, r.eval p fun d g1 v H1 k1 r1 o1 r2 p1 => p1 _ _ _ r2⟩
  · cases h
theorem sndS_brk (n : Nat) : SndS S CX cls T kws gc k N n .brk := by
  refine SndS.stmt (fun _ _ => rfl) fun {E sc X} G hp st h => ?_
  simp only [chk1] at h
  split at h
  · refine PS.by ps_break fun D σ H z => ?_
    obtain ⟨i, B0, H0, Gh, ad, τ, g, r, p⟩ := z
    exact p _ _ _ r
  · cases h
theorem sndS_cnt (n : Nat) : SndS S CX cls T kws gc k N n .cnt := by
  refine SndS.stmt (fun _ _ => rfl) fun {E sc X} G hp st h => ?_
  simp only [chk1] at h
  split at h
  · refine PS.by ps_continue fun D σ H z => ?_
    obtain ⟨i, B0, H0, Gh, ad, τ, g, r, p⟩ := z
    exact p _ _ _ r
  · cases h
theorem sndS_pass (n : Nat) : SndS S CX cls T kws gc k N n .pass := by
  refine SndS.stmt (fun _ _ => rfl) fun {E sc X} G hp st h => ?_
  have rd : ∀ D σ H, tS S T cls E n .pass D σ H → tNext D σ H := fun D σ H z => by
    obtain ⟨i, B0, H0, Gh, ad, τ, g, r, p⟩ := z
    exact p _ _ _ r
  simp only [chk1] at h
  split at h
  · exact PS.by ps_pass rd
  · exact PS.by ps_doc rd
  · cases h
theorem sndS_fail (n : Nat) : SndS S CX cls T kws gc k N n .fail := by
  refine SndS.stmt (fun _ _ => rfl) fun {E sc X} G hp st h => PS.by PS.no fun D σ H z => ?_
  obtain ⟨i, B0, H0, Gh, ad, τ, g, r, p⟩ := z
  exact p
theorem sndS_nil (n : Nat) : SndS S CX cls T kws gc k N n .nil where
  one := fun _ _ _ h => by simp [chk1] at h
  all := fun {E sc X} G hp sts h => by
    simp only [chks, List.isEmpty_iff] at h
    subst h
    refine PSs.by pss_nil fun D σ H z => ?_
    obtain ⟨i, B0, H0, Gh, ad, τ, g, r, p⟩ := z
    exact p _ _ _ r
theorem sndS_cons {n : Nat} {s r : Slim.S} (is : SndS S CX cls T kws gc k N n s) (ir : SndS S CX cls T kws gc k N n r) : SndS S CX cls T kws gc k N n (.cons s r) where
  one := fun _ _ _ h => by simp [chk1] at h
  all := fun {E sc X} G hp sts h => by
    simp only [chks] at h
    split at h
    · simp only [Bool.and_eq_true] at h
      refine PSs.by (pss_cons (is.one G hp _ h.1) (ir.all G hp _ h.2)) fun D σ H z => ?_
      obtain ⟨i, B0, H0, Gh, ad, τ, g, q, p⟩ := z
      simp only [run] at p
      refine ⟨i, B0, H0, Gh, ad, τ, g, q, ?_⟩
      cases e : run T n s τ g with
      | nx τ' g' => rw [e] at p; exact fun ad' σ' H' q' => ⟨i, B0, H0, Gh, ad', τ', g', q', p⟩
      | rt d g' => rw [e] at p; exact p
      | bk τ' g' => rw [e] at p; exact p
      | ct τ' g' => rw [e] at p; exact p
      | ex c t g' => rw [e] at p; exact p
      | no => rw [e] at p; exact p
    · cases h
theorem test_read {c : Slim.E} {α : Type} {f : Bool → S.G → Out S} {Q : Bool → Hp → Prop} (r : SR S i B0 H0 Gh ad τ g σ H) (p : PostS S cls i B0 H0 Gh E Dn ((testV T c τ g).out f)) (q : ∀ b g1 H1, SR S i B0 H0 Gh ad τ g1 σ H1 → PostS S cls i B0 H0 Gh E Dn (f b g1) → Q b H1) : tT S T cls E c σ H Q := by
  refine ⟨i, Bad B0 ad (rds c), view (rds c) τ, g, r.er _, ?_⟩
  unfold testV evV at p
  exact r.eval p fun b g1 v H1 k1 r1 o1 r2 p1 => by subst r1; exact q v g1 H1 r2 p1
theorem sndS_ife {n : Nat} (c : Slim.E) {a b : Slim.S} (ia : SndS S CX cls T kws gc k N n a) (ib : SndS S CX cls T kws gc k N n b) : SndS S CX cls T kws gc k N n (.ife c a b) := by
  refine SndS.stmt (fun _ _ => rfl) fun {E sc X} G hp st h => ?_
  simp only [chk1] at h
  split at h
  · simp only [Bool.and_eq_true] at h
    refine PS.by (ps_if ((snd_all c).pt G _ h.1.1) (ia.all G hp _ h.1.2) (ib.all G hp _ h.2)) fun D σ H z => ?_
    obtain ⟨i, B0, H0, Gh, ad, τ, g, r, p⟩ := z
    simp only [run] at p
    refine test_read (α := Unit) r p fun x g1 H1 r1 p1 => ?_
    cases x with
    | true => exact ⟨i, B0, H0, Gh, ad, τ, g1, r1, p1⟩
    | false => exact ⟨i, B0, H0, Gh, ad, τ, g1, r1, p1⟩
  · cases h
end
end Slim

set_option Elab.async false
set_option linter.all false
set_option maxRecDepth 100000
set_option maxHeartbeats 4000000
/-! SLIM 19: stores of several names, changes of an own list. -/
namespace Slim
open PySem PySem.Spec PyProof.Rows L2
section
variable {S : GS} {CX : CXT} {cls : Cls} {T : Tab S} {kws : Str → List (List Str × List Nat)} {gc : Bool} {k : Nat} {E : XK} {N : List Str} {sc : Scope} {X : Cx}
variable {i : S.I} {B0 : Addr → Prop} {H0 : Hp} {Gh : V → D → Prop} {ad : Nat → Option Addr} {τ : Sl} {g g' : S.G} {σ : L2.St} {H H' : Hp} {Dn : Ends}
mutual
theorem BR.less {B B' : Addr → Prop} {H : Hp} (m : ∀ a, B' a → B a) : ∀ {t : Tg} {d : D} {σ σ' : L2.St}, BR B H t d σ σ' → BR B' H t d σ σ'
  | .nm j, d, σ, σ', b => by
    obtain ⟨v, r, e⟩ := b
    exact ⟨v, r.less m, e⟩
  | .tp ts, .tuple ds, σ, σ', b => BRs.less m (t := ts) b
  | .tp _, .none, _, _, b | .tp _, .bool _, _, _, b | .tp _, .int _, _, _, b | .tp _, .str _, _, _, b | .tp _, .list _, _, _, b | .tp _, .dict _, _, _, b => by simp [BR] at b
  | .nil, _, _, _, b => by simp [BR] at b
  | .cons _ _, _, _, _, b => by simp [BR] at b
theorem BRs.less {B B' : Addr → Prop} {H : Hp} (m : ∀ a, B' a → B a) : ∀ {t : Tg} {ds : List D} {σ σ' : L2.St}, BRs B H t ds σ σ' → BRs B' H t ds σ σ'
  | .nil, [], σ, σ', b => b
  | .nil, _ :: _, _, _, b => by simp [BRs] at b
  | .nm _, _, _, _, b => by simp [BRs] at b
  | .tp _, _, _, _, b => by simp [BRs] at b
  | .cons _ _, [], _, _, b => by simp [BRs] at b
  | .cons t ts, d :: ds, σ, σ', b => by
    simp only [BRs] at b ⊢
    obtain ⟨σ1, b1, b2⟩ := b
    exact ⟨σ1, BR.less m b1, BRs.less m b2⟩
end
theorem Bad.sub {ad ad' : Nat → Option Addr} (hs : ∀ j p, ad' j = some p → ad j = some p) : ∀ a, Bad B0 ad' [] a → Bad B0 ad [] a := fun a h => h.imp id fun ⟨j, h1, h2⟩ => ⟨j, hs j a h1, h2⟩
mutual
theorem SR.bind : ∀ {t : Tg} {d : D} {ad : Nat → Option Addr} {τ : Sl} {σ σ' : L2.St}, SR S i B0 H0 Gh ad τ g σ H → BR (Bad B0 ad []) H t d σ σ' → ∃ ad', SR S i B0 H0 Gh ad' (setT t d τ) g σ' H ∧ ∀ j p, ad' j = some p → ad j = some p
  | .nm j, d, ad, τ, σ, σ', r, b => by
    obtain ⟨v, h, rfl⟩ := b
    exact r.put h
  | .tp ts, .tuple ds, ad, τ, σ, σ', r, b => SR.binds (t := ts) r b
  | .tp _, .none, _, _, _, _, _, b | .tp _, .bool _, _, _, _, _, _, b | .tp _, .int _, _, _, _, _, _, b | .tp _, .str _, _, _, _, _, _, b | .tp _, .list _, _, _, _, _, _, b | .tp _, .dict _, _, _, _, _, _, b => by simp [BR] at b
  | .nil, _, _, _, _, _, _, b => by simp [BR] at b
  | .cons _ _, _, _, _, _, _, _, b => by simp [BR] at b
theorem SR.binds : ∀ {t : Tg} {ds : List D} {ad : Nat → Option Addr} {τ : Sl} {σ σ' : L2.St}, SR S i B0 H0 Gh ad τ g σ H → BRs (Bad B0 ad []) H t ds σ σ' → ∃ ad', SR S i B0 H0 Gh ad' (setTs t ds τ) g σ' H ∧ ∀ j p, ad' j = some p → ad j = some p
  | .nil, [], ad, τ, σ, σ', r, b => by
    simp only [BRs] at b
    subst b
    exact ⟨ad, r, fun _ _ h => h⟩
  | .nil, _ :: _, _, _, _, _, _, b => by simp [BRs] at b
  | .nm _, _, _, _, _, _, _, b => by simp [BRs] at b
  | .tp _, _, _, _, _, _, _, b => by simp [BRs] at b
  | .cons _ _, [], _, _, _, _, _, b => by simp [BRs] at b
  | .cons t ts, d :: ds, ad, τ, σ, σ', r, b => by
    simp only [BRs] at b
    obtain ⟨σ1, b1, b2⟩ := b
    obtain ⟨ad1, r1, h1⟩ := SR.bind r b1
    obtain ⟨ad2, r2, h2⟩ := SR.binds r1 (BRs.less (Bad.sub h1) b2)
    exact ⟨ad2, r2, fun j p h => h1 j p (h2 j p h)⟩
end
theorem bindT_some {t : Tg} {d : D} {τ τ' : Sl} (h : bindT t d τ = some τ') : fitT t d = true ∧ τ' = setT t d τ := by
  unfold bindT at h
  split at h
  · rename_i hf
    exact ⟨hf, (Option.some.inj h).symm⟩
  · cases h
theorem isTup_of {e : Expr} (h : isTupE e = true) : ∃ es kk p, e = .Tuple es kk p := by
  cases e <;> simp only [isTupE, Bool.false_eq_true] at h
  exact ⟨_, _, _, rfl⟩
theorem whole_none {es : List Expr} {kk : Nat} {p : Pos} {v : Expr} {env : Env} (h : wholeB env.scope (.Tuple es kk p) v = true) : swappedStores [.Tuple es kk p] v env = pure none := by
  cases v with
  | Tuple vs k2 p2 =>
    simp only [wholeB, Bool.or_eq_true, Bool.and_eq_true, decide_eq_true_eq] at h
    unfold swappedStores
    simp only
    by_cases h1 : (!(es.length == 2 || es.length == 3) || vs.length != es.length || env.blockKind != .function) = true
    · rw [if_pos h1]
    · rw [if_neg h1]
      rcases h with (h | h) | h
      · exfalso
        apply h1
        simp only [Bool.or_eq_true, Bool.not_eq_true', bne_iff_ne, ne_eq, Bool.or_eq_false_iff, beq_eq_false_iff_ne]
        by_cases e : vs.length = es.length
        · exact .inl (.inl ⟨by omega, by omega⟩)
        · exact .inl (.inr e)
      · split
        · rfl
        · split
          · rfl
          · rfl
      · split
        · rfl
        · rename_i h2
          rw [if_pos]
          simp only [Bool.or_eq_true, bne_iff_ne, ne_eq]
          left
          intro z
          rw [List.filterMap_length_eq_length] at z
          obtain ⟨e, he, hn⟩ := List.any_eq_true.mp h
          have := z e he
          unfold notLoc at hn
          cases e with
          | Name x px =>
            simp only [Bool.not_eq_true', decide_eq_false_iff_not] at hn
            have hk : (env.kindOf x == some NameKind.local) = false := by
              rw [beq_eq_false_iff_ne]; exact hn
            simp only [hk, Bool.false_and, Bool.false_eq_true, if_false, Option.isSome_none] at this
          | _ => simp at this
  | _ => rfl
theorem sndS_asgt (n : Nat) (t : Tg) (e : Slim.E) : SndS S CX cls T kws gc k N n (.asgt t e) := by
  refine SndS.stmt (fun _ _ => rfl) fun {E sc X} G hp st h => ?_
  simp only [chk1] at h
  split at h
  · simp only [Bool.and_eq_true] at h
    obtain ⟨⟨⟨⟨h1, h2⟩, h3⟩, h4⟩, h5⟩ := h
    obtain ⟨es, kk, p, rfl⟩ := isTup_of h1
    refine PS.by (ps_asg ((snd_all e).pe G _ h3) (pg_ok G t _ h2) (by unfold swapsWithSole; exact swaps_false h4 _ _ _) (whole_none (by rw [G.scp]; exact h5)) rfl) fun D σ H z => ?_
    obtain ⟨i, B0, H0, Gh, ad, τ, g, r, p⟩ := z
    simp only [run, evV] at p
    refine ⟨i, Bad B0 ad (rds e), view (rds e) τ, g, r.er _, r.eval p fun d g1 v H1 k1 r1 o1 r2 p1 => ?_⟩
    obtain ⟨ad', r3, h3, _⟩ := r2.aftD r1
    cases hb : bindT t d (aft (rds e) (noMut d) τ) with
    | none => rw [hb] at p1; exact p1.elim
    | some τ' =>
      rw [hb] at p1
      obtain ⟨hf, rfl⟩ := bindT_some hb
      refine ⟨_, d, h3, hf, fun σ' b => ?_⟩
      obtain ⟨ad2, r4, _⟩ := r3.bind b
      exact p1 _ _ _ r4
  · cases h
theorem nodup_ne {N : List Str} {x y : Str} {i j : Nat} (nd : N.Nodup) (h1 : N[i]? = some x) (h2 : N[j]? = some y) (h : i ≠ j) : x ≠ y := fun e => by
  subst e
  obtain ⟨l1, e1⟩ := List.getElem?_eq_some_iff.mp h1
  obtain ⟨l2, e2⟩ := List.getElem?_eq_some_iff.mp h2
  have pw := List.pairwise_iff_getElem.mp nd
  rcases Nat.lt_or_gt_of_ne h with l | l
  · exact pw i j l1 l2 l (e1.trans e2.symm)
  · exact pw j i l2 l1 l (e2.trans e1.symm)
theorem any_no {f : Expr → Bool} {vs : List Expr} (h : ∀ e ∈ vs, noStar e = true) (hf : ∀ e, noStar e = true → f e = false) : vs.any f = false := by
  rw [List.any_eq_false]
  exact fun e he => by rw [hf e (h e he)]; exact Bool.false_ne_true
theorem swapped2 {x y : Str} {px py pt pt2 : Pos} {kt k2 : Nat} {a b : Expr} {env : Env} (hk : env.scope.kind = .function) (hx : env.scope.names.lookup x = some .local) (hy : env.scope.names.lookup y = some .local) (hl : (px.line == py.line) = true)
    (ha : noStar a = true) (hb : noStar b = true) (h1 : [a, b].all (foldedForSure 8) = false) (h2 : [a, b].all (constantsAlone 8) = false) (hn : x ≠ y) :
    swappedStores [.Tuple [.Name x px, .Name y py] kt pt] (.Tuple [a, b] k2 pt2) env = pure (some [x, y]) := by
  have hbk : env.blockKind = .function := by unfold Env.blockKind; rw [hk]; rfl
  have hkx : env.kindOf x = some .local := hx
  have hky : env.kindOf y = some .local := hy
  have hl' : py.line = px.line := by simpa using Eq.symm (by simpa using hl)
  have e2 : [x, y].eraseDups = [x, y] := by
    simp [List.eraseDups_cons, Ne.symm hn, hn]
  unfold swappedStores
  simp only [hbk]
  rw [any_no (vs := [a, b]) (by simp [ha, hb])]
  · simp only [List.head?_cons, Option.map_some, Option.getD_some, Expr.pos, List.filterMap_cons, List.filterMap_nil, hkx, hky, hl', beq_self_eq_true, Bool.and_self, if_true]
    rw [h1, h2, e2]
    rfl
  · intro e he
    cases e <;> first | rfl | (simp only [noStar, reduceCtorEq] at he; done)
theorem swapped3 {x y z : Str} {px py pz pt pt2 : Pos} {kt k2 : Nat} {a b c : Expr} {env : Env} (hk : env.scope.kind = .function) (hx : env.scope.names.lookup x = some .local) (hy : env.scope.names.lookup y = some .local) (hz : env.scope.names.lookup z = some .local) (hl : (px.line == py.line) = true) (hl2 : (px.line == pz.line) = true)
    (ha : noStar a = true) (hb : noStar b = true) (hc : noStar c = true) (h1 : [a, b, c].all (foldedForSure 8) = false) (h2 : [a, b, c].all (constantsAlone 8) = false) (hn : x ≠ y) (hn2 : x ≠ z) (hn3 : y ≠ z) :
    swappedStores [.Tuple [.Name x px, .Name y py, .Name z pz] kt pt] (.Tuple [a, b, c] k2 pt2) env = pure (some [x, y, z]) := by
  have hbk : env.blockKind = .function := by unfold Env.blockKind; rw [hk]; rfl
  have hkx : env.kindOf x = some .local := hx
  have hky : env.kindOf y = some .local := hy
  have hkz : env.kindOf z = some .local := hz
  have hl' : py.line = px.line := by simpa using Eq.symm (by simpa using hl)
  have hl3 : pz.line = px.line := by simpa using Eq.symm (by simpa using hl2)
  have e2 : [x, y, z].eraseDups = [x, y, z] := by
    simp [List.eraseDups_cons, Ne.symm hn, hn, hn2, Ne.symm hn2, hn3, Ne.symm hn3]
  unfold swappedStores
  simp only [hbk]
  rw [any_no (vs := [a, b, c]) (by simp [ha, hb, hc])]
  · simp only [List.head?_cons, Option.map_some, Option.getD_some, Expr.pos, List.filterMap_cons, List.filterMap_nil, hkx, hky, hkz, hl', hl3, beq_self_eq_true, Bool.and_self, if_true]
    rw [h1, h2, e2]
    rfl
  · intro e he
    cases e <;> first | rfl | (simp only [noStar, reduceCtorEq] at he; done)
def gNames (is : List Nat) : TGs := fun vs σ H Q => vs.length = is.length ∧ Q (putV is vs σ) H
theorem pgs_names (G : Good S CX cls T kws gc k E N sc (blkAsg sc) X) : ∀ (is : List Nat) (ts : List Expr), namesB N sc is ts = true → PGs X ts (gNames is)
  | [], [], _ => PGs.by pgs_nil fun vs σ H Q z => by
    obtain ⟨h, q⟩ := z
    cases vs with
    | nil => exact ⟨rfl, q⟩
    | cons _ _ => cases h
  | i :: is, .Name x p :: ts, h => by
    simp only [namesB, Bool.and_eq_true, decide_eq_true_eq] at h
    obtain ⟨⟨h1, h2⟩, h3⟩ := h
    obtain ⟨l1, l2, l3, l4⟩ := loc_of G h1 h2
    refine PGs.by (pgs_cons (pg_name l1 l2 l3 l4) (pgs_names G is ts h3) rfl) fun vs σ H Q z => ?_
    obtain ⟨hl, q⟩ := z
    cases vs with
    | nil => cases hl
    | cons v vs => exact ⟨v, vs, rfl, by simpa using hl, q⟩
  | [], _ :: _, h => by simp [namesB] at h
  | _ :: _, [], h => by simp [namesB] at h
  | _ :: _, .BoolOp _ _ _ :: _, h | _ :: _, .NamedExpr _ _ _ :: _, h => by simp [namesB] at h
theorem names_back {env : Env} : ∀ {is : List Nat} {ts : List Expr}, namesB N sc is ts = true → (assignEach ts env).findIdx? (·.1) = none ∧ (assignEach ts env).length = is.length := by
  intro is
  induction is with
  | nil =>
    intro ts h
    cases ts with
    | nil => exact ⟨rfl, rfl⟩
    | cons t ts => simp [namesB] at h
  | cons i is ih =>
    intro ts h
    cases ts with
    | nil => simp [namesB] at h
    | cons t ts =>
      cases t <;> simp only [namesB, Bool.false_eq_true, Bool.and_eq_true] at h
      obtain ⟨h1, h2⟩ := ih h.2
      rw [assign_cons rfl]
      refine ⟨?_, by rw [List.length_cons, h2, List.length_cons]⟩
      rw [List.findIdx?_cons, h1]
      rfl
theorem sndS_par (n : Nat) (is : List Nat) (as : Slim.E) : SndS S CX cls T kws gc k N n (.par is as) := by
  refine SndS.stmt (fun _ _ => rfl) fun {E sc X} G hp st h => ?_
  simp only [chk1] at h
  split at h
  · rename_i ts k1 p1 vs k2 p2 p3
    simp only [Bool.and_eq_true, Bool.or_eq_true] at h
    obtain ⟨h, hc⟩ := h
    have hk : X.env.scope.kind = .function := by rw [G.scp]; exact G.kf
    rcases h with h | ⟨⟨hnm, hw⟩, hsz⟩
    · unfold parB at h
      split at h
      · rename_i i j x px y py a b
        simp only [Bool.and_eq_true, Bool.not_eq_true', decide_eq_true_eq] at h
        obtain ⟨⟨⟨⟨⟨⟨⟨⟨⟨hi, hj⟩, hx⟩, hy⟩, hij⟩, hl⟩, ha⟩, hb⟩, f1⟩, f2⟩ := h
        have hx' : X.env.scope.names.lookup x = some .local := by rw [G.scp]; exact hx
        have hy' : X.env.scope.names.lookup y = some .local := by rw [G.scp]; exact hy
        refine PS.by (ps_par G.calm (by rw [G.hN]; exact G.nd) (by rw [G.hN]; exact hi) (by rw [G.hN]; exact hj) hij hx' hy' (pa_news G as _ hc) (swapped2 hk hx' hy' hl ha hb f1 f2 (nodup_ne G.nd hi hj hij))) fun D σ H z => ?_
        obtain ⟨i0, B0, H0, Gh, ad, τ, g, r, p⟩ := z
        simp only [run] at p
        refine ⟨i0, Bad B0 ad (rds as), view (rds as) τ, g, r.er _, r.eval p fun ds g1 v H1 k1 r1 o1 r2 p1 => ?_⟩
        split at p1
        · rename_i hlen
          obtain ⟨ps, nd, fr, np⟩ := r1
          obtain ⟨ad', r3⟩ := r.news k1 o1 nd fr hlen.symm np
          have hv := np.length.trans hlen
          match v, hv with
          | [v, w], _ => exact ⟨v, w, rfl, p1 _ _ _ r3⟩
        · exact p1.elim
      · rename_i i j l x px y py z pz a b c
        simp only [Bool.and_eq_true, Bool.not_eq_true', decide_eq_true_eq] at h
        obtain ⟨⟨⟨⟨⟨⟨⟨⟨⟨⟨⟨⟨⟨⟨⟨hi, hj⟩, hll⟩, hx⟩, hy⟩, hz⟩, hij⟩, hil⟩, hjl⟩, hl⟩, hl2⟩, ha⟩, hb⟩, hcc⟩, f1⟩, f2⟩ := h
        have hx' : X.env.scope.names.lookup x = some .local := by rw [G.scp]; exact hx
        have hy' : X.env.scope.names.lookup y = some .local := by rw [G.scp]; exact hy
        have hz' : X.env.scope.names.lookup z = some .local := by rw [G.scp]; exact hz
        refine PS.by (ps_par3 G.calm (by rw [G.hN]; exact G.nd) (by rw [G.hN]; exact hi) (by rw [G.hN]; exact hj) (by rw [G.hN]; exact hll) hij hil hjl hx' hy' hz' (pa_news G as _ hc) (swapped3 hk hx' hy' hz' hl hl2 ha hb hcc f1 f2 (nodup_ne G.nd hi hj hij) (nodup_ne G.nd hi hll hil) (nodup_ne G.nd hj hll hjl))) fun D σ H z => ?_
        obtain ⟨i0, B0, H0, Gh, ad, τ, g, r, p⟩ := z
        simp only [run] at p
        refine ⟨i0, Bad B0 ad (rds as), view (rds as) τ, g, r.er _, r.eval p fun ds g1 v H1 k1 r1 o1 r2 p1 => ?_⟩
        split at p1
        · rename_i hlen
          obtain ⟨ps, nd, fr, np⟩ := r1
          obtain ⟨ad', r3⟩ := r.news k1 o1 nd fr hlen.symm np
          have hv := np.length.trans hlen
          match v, hv with
          | [u, v, w], _ => exact ⟨u, v, w, rfl, p1 _ _ _ r3⟩
        · exact p1.elim
      · cases h
    · obtain ⟨b1, b2⟩ := names_back (env := X.env) hnm
      refine PS.by (ps_asg (pe_tup (pa_news G as _ hc)) (pg_tup G.calm (pgs_names G is ts hnm) b2 b1) rfl (whole_none (by rw [G.scp]; exact hw)) rfl) fun D σ H z => ?_
      obtain ⟨i0, B0, H0, Gh, ad, τ, g, r, p⟩ := z
      simp only [run] at p
      refine ⟨i0, Bad B0 ad (rds as), view (rds as) τ, g, r.er _, r.eval p fun ds g1 v H1 k1 r1 o1 r2 p1 => ?_⟩
      split at p1
      · rename_i hlen
        obtain ⟨ps, nd, fr, np⟩ := r1
        have hv := np.length.trans hlen
        refine ⟨?_, fun q hq => ?_⟩
        · rw [hv, sizeLine_eq]
          have := of_decide_eq_true hsz
          omega
        · obtain ⟨ad', r3⟩ := r.news (k1.trans (Kp.new hq)) (GS.same o1 (Kp.new hq)) nd fr hlen.symm (np.keep (Kp.new hq))
          exact ⟨q, v, rfl, SqT.of upd_same, hv, hv, p1 _ _ _ r3⟩
      · exact p1.elim
  · cases h

/-- an own list's slot -/
theorem SR.own (r : SR S i B0 H0 Gh ad τ g σ H) {n : Nat} {ds : List D} (h : τ[n]? = some (.own ds)) : ∃ p xs, ad n = some p ∧ σ[n]? = some (some (.ref p)) ∧ H p = some (.lst xs) ∧ RepAll (Bad B0 ad []) H xs ds := r.ow n ds h
theorem few1 {pos : Pos} {env : Env} {v : Expr} (h : noStar v = true) : ((backTo pos (starEach [v] env)).all (fun x => !x.1) && (backToKw pos (keywordEach [] env)).all (fun x => x.1.isSome)
      && decide (([v] : List Expr).length + ([] : List Keyword).length + (if ([] : List Keyword).isEmpty then 0 else 1) < 30)) = true := by
  rw [star_cons h]; rfl
theorem sndS_app (n : Nat) (j : Nat) (e : Slim.E) : SndS S CX cls T kws gc k N n (.app j e) := by
  refine SndS.stmt (fun _ _ => rfl) fun {E sc X} G hp st h => ?_
  simp only [chk1] at h
  split at h
  · rename_i x px a apos v cpos pos
    simp only [Bool.and_eq_true, decide_eq_true_eq] at h
    obtain ⟨⟨⟨⟨rfl, h1⟩, h2⟩, h3⟩, h4⟩ := h
    refine PS.by (ps_expr (pe_bm PySem.F.plainAttrs_list PySem.F.slot_list_append PySem.F.type_list_append mt_append (G.var h1) (pa_cons ((snd_all e).pe G _ h3) pa_nil (star_cons h2)) rfl (few1 h2) h4 (star_cons h2) rfl) (swaps_false rfl _ _ _)) fun D σ H z => ?_
    obtain ⟨i, B0, H0, Gh, ad, τ, g, r, p⟩ := z
    simp only [run, evV] at p
    cases e0 : τ[j]? with
    | none => rw [e0] at p; exact p.elim
    | some sv =>
      rw [e0] at p
      cases sv with
      | own ds0 =>
        simp only at p
        obtain ⟨q, xs, a1, a2, a3, a4⟩ := r.own e0
        refine ⟨.ref q, a2, .inl ⟨rfl, xs, SqL.of a3⟩, i, Bad B0 ad (rds e), view (rds e) τ, g, r.er _, r.eval p fun d g1 v H1 k1 r1 o1 r2 p1 => ?_⟩
        obtain ⟨ad', r3, h3, _⟩ := r2.aftD r1
        cases e1 : (aft (rds e) (noMut d) τ)[j]? with
        | none => rw [e1] at p1; exact p1.elim
        | some sv =>
          rw [e1] at p1
          cases sv with
          | own ds =>
            simp only at p1
            obtain ⟨q', xs', b1, b2, b3, b4⟩ := r3.own e1
            rw [a2] at b2
            cases b2
            split at p1
            · rename_i hl
              exact ⟨q, xs', v, rfl, rfl, b3, by rw [b4.length, sizeLine_eq]; unfold lim at hl; omega, p1 _ _ _ (r3.chgOwn b1 b3 a2 (b4.append (.cons h3 .nil)))⟩
            · exact p1.elim
          | _ => exact p1.elim
      | _ => exact p.elim
  · cases h
theorem sndS_ext (n : Nat) (j : Nat) (e : Slim.E) : SndS S CX cls T kws gc k N n (.ext j e) := by
  refine SndS.stmt (fun _ _ => rfl) fun {E sc X} G hp st h => ?_
  simp only [chk1] at h
  split at h
  · rename_i x px a apos v cpos pos
    simp only [Bool.and_eq_true, decide_eq_true_eq] at h
    obtain ⟨⟨⟨⟨rfl, h1⟩, h2⟩, h3⟩, h4⟩ := h
    refine PS.by (ps_expr (pe_bm PySem.F.plainAttrs_list PySem.F.slot_list_extend PySem.F.type_list_extend mt_extend (G.var h1) (pa_cons ((snd_all e).pe G _ h3) pa_nil (star_cons h2)) rfl (few1 h2) h4 (star_cons h2) rfl) (swaps_false rfl _ _ _)) fun D σ H z => ?_
    obtain ⟨i, B0, H0, Gh, ad, τ, g, r, p⟩ := z
    simp only [run, evV] at p
    cases e0 : τ[j]? with
    | none => rw [e0] at p; exact p.elim
    | some sv =>
      rw [e0] at p
      cases sv with
      | own ds0 =>
        simp only at p
        obtain ⟨q, xs, a1, a2, a3, a4⟩ := r.own e0
        refine ⟨.ref q, a2, .inl ⟨rfl, xs, SqL.of a3⟩, i, Bad B0 ad (rds e), view (rds e) τ, g, r.er _, r.eval p fun d g1 v H1 k1 r1 o1 r2 p1 => ?_⟩
        cases d with
        | list es =>
          obtain ⟨l, ys, rfl, _, h2, r1⟩ := r1.lstAt
          obtain ⟨ad', r3, h3, _⟩ := r2.aftL r1
          simp only at p1
          cases e1 : (aft (rds e) (noMutAll es) τ)[j]? with
          | none => rw [e1] at p1; exact p1.elim
          | some sv =>
            rw [e1] at p1
            cases sv with
            | own ds =>
              simp only at p1
              obtain ⟨q', xs', b1, b2, b3, b4⟩ := r3.own e1
              rw [a2] at b2
              cases b2
              split at p1
              · rename_i hl
                exact ⟨q, l, xs', ys, rfl, rfl, b3, h2, by rw [b4.length, h3.length, sizeLine_eq]; unfold lim at hl; omega, p1 _ _ _ (r3.chgOwn b1 b3 a2 (b4.append h3))⟩
              · exact p1.elim
            | _ => exact p1.elim
        | _ => exact p1.elim
      | _ => exact p.elim
  · cases h
theorem RepAll.last {B : Addr → Prop} {H : Hp} {vs : List V} {ds : List D} {d : D} (r : RepAll B H vs ds) (h : ds.getLast? = some d) : ∃ v, vs[vs.length - 1]? = some v ∧ Rep B H v d := by
  rw [List.getLast?_eq_getElem?, ← r.length] at h
  exact r.get h
theorem sndS_popt (n : Nat) (t : Tg) (j : Nat) : SndS S CX cls T kws gc k N n (.popt t j) := by
  refine SndS.stmt (fun _ _ => rfl) fun {E sc X} G hp st h => ?_
  simp only [chk1] at h
  split at h
  · rename_i tg x px a apos cpos pos
    simp only [Bool.and_eq_true, decide_eq_true_eq] at h
    obtain ⟨⟨⟨⟨rfl, hnt⟩, h1⟩, h2⟩, h3⟩ := h
    refine PS.by (ps_asg (pe_bm0 PySem.F.plainAttrs_list PySem.F.slot_list_pop PySem.F.type_list_pop mt_pop (G.var h1) rfl h3) (pg_ok G t _ h2) (by unfold swapsWithSole; exact swaps_false rfl _ _ _) (by cases tg <;> rfl) (by cases tg <;> first | rfl | (simp only [nmTup, Bool.false_eq_true] at hnt))) fun D σ H z => ?_
    obtain ⟨i, B0, H0, Gh, ad, τ, g, r, p⟩ := z
    simp only [run] at p
    cases e0 : τ[j]? with
    | none => rw [e0] at p; exact p.elim
    | some sv =>
      rw [e0] at p
      cases sv with
      | own ds =>
        simp only at p
        cases e1 : ds.getLast? with
        | none => rw [e1] at p; exact p.elim
        | some d =>
          rw [e1] at p
          simp only at p
          cases hb : bindT t d (τ.set j (.own ds.dropLast)) with
          | none => rw [hb] at p; exact p.elim
          | some τ' =>
            rw [hb] at p
            obtain ⟨hf, rfl⟩ := bindT_some hb
            obtain ⟨q, xs, a1, a2, a3, a4⟩ := r.own e0
            obtain ⟨v, hv, rv⟩ := a4.last e1
            have r3 := r.chgOwn a1 a3 a2 a4.dropLast
            have bp : Bad B0 ad [] q := .inr ⟨j, a1, rfl⟩
            have kk : Kp (Bad B0 ad []) H (upd H q (.lst xs.dropLast)) := fun b o e nb => by
              rw [upd_ne (fun z => nb (by rw [z]; exact bp))]; exact e
            refine ⟨.ref q, a2, .inl ⟨rfl, xs, SqL.of a3⟩, q, xs, v, rfl, rfl, a3, hv, ?_⟩
            refine ⟨_, d, rv.keep kk, hf, fun σ' b => ?_⟩
            obtain ⟨ad2, r4, _⟩ := r3.bind b
            exact p _ _ _ r4
      | _ => exact p.elim
  · cases h
theorem assign_sub {o y : Expr} {pos : Pos} {env : Env} (h : noSlice y = true) (v : Value) : assign (.Subscript o y pos) env v = (do
      let ov ← holding [v] (eval o env)
      let iv ← holding [v, ov] (eval y env)
      standAt pos
      holding [v, ov, iv] (setItem ov iv v)
      release [v, ov, iv] []) := by
  cases y <;> first | (simp only [noSlice, reduceCtorEq] at h; done) | rfl
theorem sndS_set (n : Nat) (j : Nat) (x e : Slim.E) : SndS S CX cls T kws gc k N n (.set j x e) := by
  refine SndS.stmt (fun _ _ => rfl) fun {E sc X} G hp st h => ?_
  simp only [chk1] at h
  split at h
  · rename_i nm px y spos v pos
    simp only [Bool.and_eq_true] at h
    obtain ⟨⟨⟨⟨h1, h2⟩, h3⟩, h4⟩, h5⟩ := h
    refine PS.by (ps_asg ((snd_all e).pe G _ h4) (pg_sub (G.var h1) ((snd_all x).pe G _ h3) set_list (assign_sub h2)) (by unfold swapsWithSole; exact swaps_false h5 _ _ _) rfl rfl) fun D σ H z => ?_
    obtain ⟨i, B0, H0, Gh, ad, τ, g, r, p⟩ := z
    simp only [run, evV] at p
    refine ⟨i, Bad B0 ad (rds e), view (rds e) τ, g, r.er _, r.eval p fun d g1 v H1 k1 r1 o1 r2 p1 => ?_⟩
    obtain ⟨ad', r3, h3, _⟩ := r2.aftD r1
    cases e1 : (aft (rds e) (noMut d) τ)[j]? with
    | none => rw [e1] at p1; exact p1.elim
    | some sv =>
      rw [e1] at p1
      cases sv with
      | own ds =>
        simp only at p1
        obtain ⟨q, xs, b1, b2, b3, b4⟩ := r3.own e1
        refine ⟨.ref q, b2, i, Bad B0 ad' (rds x), view (rds x) _, g1, r3.er _, r3.eval p1 fun dx g2 w H2 k2 s1 o2 r4 p2 => ?_⟩
        cases dx with
        | int z =>
          cases s1.intAt
          simp only at p2
          obtain ⟨q', xs', c1, c2, c3, c4⟩ := r4.own e1
          rw [b2] at c2
          cases c2
          cases e2 : ixN ds.length z with
          | none => rw [e2] at p2; exact p2.elim
          | some l =>
            rw [e2] at p2
            exact ⟨q, xs', z, l, rfl, rfl, c3, by rw [c4.length]; exact e2, p2 _ _ _ (r4.chgOwn c1 c3 b2 (c4.set (h3.keep (k2.mono (r4.subB []))) l))⟩
        | _ => exact p2.elim
      | _ => exact p1.elim
  · cases h
theorem SR.putG (r : SR S i B0 H0 Gh ad τ g σ H) {p : Addr} {o : HO} (b : S.bad i p) (ok : S.ok i g' (upd H p o)) : SR S i B0 H0 Gh ad τ g' σ (upd H p o) := r.step (upd_kp b) ok
theorem sndS_gset (n : Nat) (j : Nat) (key : Str) (e : Slim.E) : SndS S CX cls T kws gc k N n (.gset j key e) := by
  refine SndS.stmt (fun _ _ => rfl) fun {E sc X} G hp st h => ?_
  simp only [chk1] at h
  split at h
  · simp only [Bool.and_eq_true] at h
    obtain ⟨⟨h1, h2⟩, h3⟩ := h
    obtain ⟨x, px, kk, pk, pos, rfl, h1'⟩ := gB_of h1
    refine PS.by (ps_dput (by have := G.hu; omega) (G.var h1') pe_str ((snd_all e).pe G _ h2) (swaps_false h3 _ _ _)) fun D σ H z => ?_
    obtain ⟨i, B0, H0, Gh, ad, τ, g, r, p⟩ := z
    simp only [run, evV] at p
    refine ⟨i, Bad B0 ad (rds e), view (rds e) τ, g, r.er _, r.eval p fun d g1 v H1 k1 r1 o1 r2 p1 => ?_⟩
    split at p1
    · rename_i m hd
      cases r1.intAt
      split at p1
      · rename_i g' e1
        obtain ⟨a, kvs, h4, h5, h6, h7, h8⟩ := S.putOk i g1 H1 key m g' o1 e1
        exact ⟨.ref a, by rw [← h4]; exact r2.dk j hd, a, _, rfl, DPut.k (k := .inr key) h6 h7, p1 _ _ _ (r2.putG h5 h8)⟩
      · exact p1.elim
    · exact p1.elim
  · cases h
end
end Slim

set_option Elab.async false
set_option linter.all false
set_option maxRecDepth 100000
set_option maxHeartbeats 4000000
/-! SLIM 19b: values into slots and items of own lists, from the left. -/
namespace Slim
open PySem PySem.Spec PyProof.Rows L2
section
variable {S : GS} {CX : CXT} {cls : Cls} {T : Tab S} {kws : Str → List (List Str × List Nat)} {gc : Bool} {k : Nat} {E : XK} {N : List Str} {sc : Scope} {X : Cx}
variable {i : S.I} {B0 : Addr → Prop} {H0 : Hp} {Gh Gh' : V → D → Prop} {ad : Nat → Option Addr} {τ : Sl} {g g' : S.G} {σ : L2.St} {H H' : Hp} {Dn : Ends}
theorem SR.ghLess (r : SR S i B0 H0 Gh' ad τ g σ H) (m : ∀ v d, Gh v d → Gh' v d) : SR S i B0 H0 Gh ad τ g σ H :=
  { r with gh := fun v d h => r.gh v d (h.imp (m v d) id) }
theorem SR.ghMore (r : SR S i B0 H0 Gh ad τ g σ H) {gs : V → D → Prop} (m : ∀ v d, gs v d → Rep (Bad B0 ad []) H v d) : SR S i B0 H0 (fun v d => Gh v d ∨ gs v d) ad τ g σ H :=
  { r with gh := fun v d h => Or.elim h (fun h => Or.elim h (fun h => r.gh v d (.inl h)) (m v d)) fun h => r.gh v d (.inr h) }
theorem PostS.more {o : Out S} (m : ∀ v d, Gh v d → Gh' v d) (h : PostS S cls i B0 H0 Gh E Dn o) : PostS S cls i B0 H0 Gh' E Dn o := by
  cases o with
  | nx τ g => exact fun ad σ H r => h ad σ H (r.ghLess m)
  | rt d g => exact h
  | bk τ g => exact fun ad σ H r => h ad σ H (r.ghLess m)
  | ct τ g => exact fun ad σ H r => h ad σ H (r.ghLess m)
  | ex c t g => exact h
  | no => exact h
def gM (S : GS) (T : Tab S) (cls : Cls) (E : XK) (ts : Slim.E) : TGs := fun vs σ H Q => ∃ (D : Ends) (i : S.I) (B0 : Addr → Prop) (H0 : Hp) (Gh : V → Slim.D → Prop) (ad : Nat → Option Addr) (τ : Sl) (g : S.G) (ds : List Slim.D),
  SR S i B0 H0 (fun v d => Gh v d ∨ (v, d) ∈ vs.zip ds) ad τ g σ H ∧ vs.length = ds.length ∧ D.nx = Q ∧ PostS S cls i B0 H0 Gh E D (stM T ts ds τ g)
theorem asg_cons2 {e : Expr} {es : List Expr} {env : Env} (h : noStar e = true) : (assignEach (e :: es) env).map (·.2) = assign e env :: (assignEach es env).map (·.2) := by
  rw [assign_cons h]; rfl
theorem pgs_M (G : Good S CX cls T kws gc k E N sc (blkAsg sc) X) : ∀ (ts : Slim.E) (es : List Expr), tgB N gc kws sc ts es = true → PGs X es (gM S T cls E ts) := by
  intro ts
  induction ts with
  | nil =>
    intro es h
    cases es with
    | nil =>
      refine PGs.by pgs_nil fun vs σ H Q z => ?_
      obtain ⟨D, i, B0, H0, Gh, ad, τ, g, ds, r, hl, rfl, p⟩ := z
      cases ds with
      | nil =>
        simp only [stM] at p
        exact ⟨List.eq_nil_of_length_eq_zero hl, p _ _ _ (r.ghLess fun v d h => .inl h)⟩
      | cons _ _ => simp only [stM] at p; exact p.elim
    | cons _ _ => simp [tgB] at h
  | cons t ts _ ih =>
    intro es h
    cases t with
    | var j =>
      cases es with
      | nil => simp [tgB] at h
      | cons e es =>
        cases e <;> try (simp [tgB] at h; done)
        rename_i x px
        simp only [tgB, Bool.and_eq_true, decide_eq_true_eq] at h
        obtain ⟨⟨h1, h2⟩, h3⟩ := h
        obtain ⟨l1, l2, l3, l4⟩ := loc_of G h1 h2
        refine PGs.by (pgs_cons (pg_name l1 l2 l3 l4) (ih es h3) (asg_cons2 rfl)) fun vs σ H Q z => ?_
        obtain ⟨D, i, B0, H0, Gh, ad, τ, g, ds, r, hl, rfl, p⟩ := z
        cases ds with
        | nil => simp only [stM] at p; exact p.elim
        | cons d ds =>
          cases vs with
          | nil => cases hl
          | cons v vs =>
            simp only [stM] at p
            have rv := r.gh v d (.inl (.inr (List.mem_cons_self ..)))
            obtain ⟨ad', r3, _⟩ := r.put rv
            exact ⟨v, vs, rfl, D, i, B0, H0, Gh, ad', _, g, ds, r3.ghLess (fun v' d' h => h.imp id fun h => List.mem_cons_of_mem _ h), by simpa using hl, rfl, p⟩
    | idx o k =>
      cases o with
      | var j =>
        cases es with
        | nil => simp [tgB] at h
        | cons e es =>
          cases e <;> try (simp [tgB] at h; done)
          rename_i o y pos
          cases o <;> try (simp [tgB] at h; done)
          rename_i x px
          simp only [tgB, Bool.and_eq_true] at h
          obtain ⟨⟨⟨h1, h2⟩, h3⟩, h4⟩ := h
          refine PGs.by (pgs_cons (pg_sub (G.var h1) ((snd_all k).pe G _ h3) set_list (assign_sub h2)) (ih es h4) (asg_cons2 rfl)) fun vs σ H Q z => ?_
          obtain ⟨D, i, B0, H0, Gh, ad, τ, g, ds, r, hl, rfl, p⟩ := z
          cases ds with
          | nil => simp only [stM] at p; exact p.elim
          | cons d ds =>
            cases vs with
            | nil => cases hl
            | cons v vs =>
              simp only [stM] at p
              have rv := r.gh v d (.inl (.inr (List.mem_cons_self ..)))
              have p' := p.more (Gh' := fun v' d' => Gh v' d' ∨ (v', d') ∈ (v :: vs).zip (d :: ds)) fun _ _ h => .inl h
              cases e1 : τ[j]? with
              | none => rw [e1] at p'; exact p'.elim
              | some sv =>
                rw [e1] at p'
                cases sv with
                | own us =>
                  simp only at p'
                  obtain ⟨q, xs, a1, a2, a3, a4⟩ := r.own e1
                  refine ⟨v, vs, rfl, .ref q, a2, i, Bad B0 ad (rds k), view (rds k) τ, g, r.er _, r.eval p' fun dx g2 w H2 k2 s1 o2 r4 p2 => ?_⟩
                  cases dx with
                  | int z =>
                    cases s1.intAt
                    simp only at p2
                    obtain ⟨q', xs', c1, c2, c3, c4⟩ := r4.own e1
                    rw [a2] at c2
                    cases c2
                    cases e2 : ixN us.length z with
                    | none => rw [e2] at p2; exact p2.elim
                    | some l =>
                      rw [e2] at p2
                      have r5 := r4.chgOwn c1 c3 a2 (c4.set (rv.keep (k2.mono (r4.subB []))) l)
                      exact ⟨q, xs', z, l, rfl, rfl, c3, by rw [c4.length]; exact e2, D, i, B0, H0, _, ad, _, g2, ds, r5.ghLess (fun v' d' h => h.elim id fun h => .inr (List.mem_cons_of_mem _ h)), by simpa using hl, rfl, p2⟩
                  | _ => exact p2.elim
                | _ => exact p'.elim
      | _ => cases es <;> simp [tgB] at h
    | _ => cases es <;> simp [tgB] at h
  | _ => intro es h; cases es <;> simp [tgB] at h
theorem tg_back {env : Env} : ∀ {ts : Slim.E} {es : List Expr}, tgB N gc kws sc ts es = true → (assignEach es env).findIdx? (·.1) = none ∧ (assignEach es env).length = es.length := by
  intro ts
  induction ts with
  | nil => intro es h; cases es <;> first | exact ⟨rfl, rfl⟩ | (simp [tgB] at h)
  | cons t ts _ ih =>
    intro es h
    cases es with
    | nil => cases t <;> simp [tgB] at h
    | cons e es =>
      have hb : noStar e = true ∧ tgB N gc kws sc ts es = true := by
        cases t with
        | var j =>
          cases e <;> try (simp [tgB] at h; done)
          simp only [tgB, Bool.and_eq_true] at h
          exact ⟨rfl, h.2⟩
        | idx o k =>
          cases o with
          | var j =>
            cases e <;> try (simp [tgB] at h; done)
            rename_i o y pos
            cases o <;> try (simp [tgB] at h; done)
            simp only [tgB, Bool.and_eq_true] at h
            exact ⟨rfl, h.2⟩
          | _ => simp [tgB] at h
        | _ => simp [tgB] at h
      obtain ⟨h1, h2⟩ := ih hb.2
      rw [assign_cons hb.1]
      refine ⟨?_, by rw [List.length_cons, h2, List.length_cons]⟩
      rw [List.findIdx?_cons, h1]
      rfl
  | _ => intro es h; cases es <;> simp [tgB] at h
theorem sndS_pmx (n : Nat) (ts as : Slim.E) : SndS S CX cls T kws gc k N n (.pmx ts as) := by
  refine SndS.stmt (fun _ _ => rfl) fun {E sc X} G hp st h => ?_
  simp only [chk1] at h
  split at h
  · rename_i tgs k1 p1 vs k2 p2 p3
    simp only [Bool.and_eq_true, decide_eq_true_eq] at h
    obtain ⟨⟨⟨⟨h1, h2⟩, h3⟩, h5⟩, h4⟩ := h
    obtain ⟨b1, b2⟩ := tg_back (env := X.env) h1
    refine PS.by (ps_asg (pe_tup ((snd_all as).pa G _ h4)) (pg_tup G.calm (pgs_M G ts tgs h1) b2 b1) rfl (whole_none (by rw [G.scp]; exact h2)) rfl) fun D σ H z => ?_
    obtain ⟨i0, B0, H0, Gh, ad, τ, g, r, p⟩ := z
    simp only [run] at p
    cases hev : evs S T as (view (rds as) τ) g with
    | no => rw [hev] at p; exact p.elim
    | ex c t g1 =>
      refine ⟨i0, Bad B0 ad (rds as), view (rds as) τ, g, r.er _, ?_⟩
      rw [hev] at p ⊢
      exact PostX.lift r p
    | ok ds g1 =>
      have hl := (evs_len hev).trans (chkA_len h4).symm
      refine ⟨i0, Bad B0 ad (rds as), view (rds as) τ, g, r.er _, ?_⟩
      rw [hev] at p ⊢
      intro us H1 k1 r1 o1
      have r2 := r.step k1 o1
      have hlu : us.length = tgs.length := by rw [r1.length, hl, h5]
      refine ⟨by rw [hlu, sizeLine_eq]; omega, fun q hq => ?_⟩
      have r3 : SR S i0 B0 H0 Gh ad τ g1 σ (upd H1 q (.tup us)) := r2.step (Kp.new hq) (GS.same o1 (Kp.new hq))
      obtain ⟨ad', r4, h6, _⟩ := r3.aftL (rd := rds as) (r1.keep (Kp.new hq))
      refine ⟨q, us, rfl, SqT.of upd_same, hlu, D, i0, B0, H0, Gh, ad', _, g1, ds, r4.ghMore (gs := fun v d => (v, d) ∈ us.zip ds) (fun v d hm => ?_), r1.length, rfl, p⟩
      obtain ⟨n, hn⟩ := List.mem_iff_getElem?.mp hm
      rw [List.getElem?_zip_eq_some] at hn
      obtain ⟨v', e1, e2⟩ := h6.get hn.2
      rw [hn.1] at e1
      cases e1
      exact e2
  · cases h
end
end Slim

set_option Elab.async false
set_option linter.all false
set_option maxRecDepth 100000
set_option maxHeartbeats 4000000
/-! SLIM 20: loops. -/
namespace Slim
open PySem PySem.Spec PyProof.Rows L2
section
variable {S : GS} {CX : CXT} {cls : Cls} {T : Tab S} {kws : Str → List (List Str × List Nat)} {gc : Bool} {k : Nat} {E : XK} {N : List Str} {sc : Scope} {X : Cx}
variable {i : S.I} {B0 : Addr → Prop} {H0 : Hp} {Gh Gh' : V → D → Prop} {ad : Nat → Option Addr} {τ : Sl} {g g' : S.G} {σ : L2.St} {H H' : Hp} {Dn : Ends}
theorem sndS_whl {n : Nat} (c : Slim.E) {b : Slim.S} (ib : SndS S CX cls T kws gc k N n b) : SndS S CX cls T kws gc k N n (.whl c b) := by
  refine SndS.stmt (fun _ _ => rfl) fun {E sc X} G hp st h => ?_
  simp only [chk1] at h
  split at h
  · simp only [Bool.and_eq_true] at h
    refine PS.by (ps_while hp ((snd_all c).pt G _ h.1) (ib.all G hp _ h.2)) fun D σ H z => ?_
    obtain ⟨i, B0, H0, Gh, ad, τ, g, r, p⟩ := z
    simp only [run] at p
    refine ⟨fun m σ H => ∃ ad τ g, SR S i B0 H0 Gh ad τ g σ H ∧ PostS S cls i B0 H0 Gh E D (whlGo (fun τ g => testV T c τ g) (fun τ g => run T n b τ g) m τ g), ⟨n, ad, τ, g, r, p⟩, ?_⟩
    rintro m σ H ⟨ad, τ, g, r, p⟩
    cases m with
    | zero => exact p.elim
    | succ m =>
      simp only [whlGo] at p
      refine test_read (α := Unit) r p fun x g1 H1 r1 p1 => ?_
      cases x with
      | false => exact p1 ad σ H1 r1
      | true =>
        rw [if_pos rfl] at p1
        refine ⟨fun σ H => ∃ ad τ g, SR S i B0 H0 Gh ad τ g σ H ∧ PostS S cls i B0 H0 Gh E D (whlGo (fun τ g => testV T c τ g) (fun τ g => run T n b τ g) m τ g), fun σ' H' w => ⟨m, Nat.lt_succ_self m, w⟩, i, B0, H0, Gh, ad, τ, g1, r1, ?_⟩
        cases e : run T n b τ g1 with
        | nx τ' g' => rw [e] at p1; exact fun ad' σ' H' q' => ⟨ad', τ', g', q', p1⟩
        | rt d g' => rw [e] at p1; exact p1
        | bk τ' g' => rw [e] at p1; exact p1
        | ct τ' g' => rw [e] at p1; exact fun ad' σ' H' q' => ⟨ad', τ', g', q', p1⟩
        | ex c t g' => rw [e] at p1; exact p1
        | no => rw [e] at p1; exact p1
  · cases h
theorem frzI_ok (it : Slim.E) (r : SR S i B0 H0 Gh ad τ g σ H) {J : It} {items : List D} (w : Wk (wkB it (Bad B0 ad (rds it))) H J items) :
    ∃ (ad' : Nat → Option Addr) (gs : V → D → Prop), SR S i B0 H0 (fun v d => Gh v d ∨ gs v d) ad' (frzI it τ) g σ H ∧ ∀ (B' : Addr → Prop) H', Dom B' H' → (∀ v d, gs v d → Rep B' H' v d) →
      J.stop items.length H' ∧ ∀ n, n < items.length → J.go n H' ∧ ∀ x H'', J.yld n H' x H'' → ∃ d, items[n]? = some d ∧ Kp All H' H'' ∧ Rep B' H'' x d := by
  obtain ⟨gs, w1, w2⟩ := w
  have gen : wkB it (Bad B0 ad (rds it)) = Bad B0 ad (rds it) → frzI it τ = frz (rds it) τ → ∃ (ad' : Nat → Option Addr) (gs : V → D → Prop), SR S i B0 H0 (fun v d => Gh v d ∨ gs v d) ad' (frzI it τ) g σ H ∧ ∀ (B' : Addr → Prop) H', Dom B' H' → (∀ v d, gs v d → Rep B' H' v d) →
      J.stop items.length H' ∧ ∀ n, n < items.length → J.go n H' ∧ ∀ x H'', J.yld n H' x H'' → ∃ d, items[n]? = some d ∧ Kp All H' H'' ∧ Rep B' H'' x d := fun e1 e2 => by
    obtain ⟨ad', r', hb, _⟩ := r.froze (rds it)
    rw [e2]
    exact ⟨ad', gs, r'.ghMore fun v d h => (w1 v d h).less fun a ha => by rw [e1]; exact (hb a).mp ha, w2⟩
  have rng : (∀ a, wkB it (Bad B0 ad (rds it)) a) → frzI it τ = τ → ∃ (ad' : Nat → Option Addr) (gs : V → D → Prop), SR S i B0 H0 (fun v d => Gh v d ∨ gs v d) ad' (frzI it τ) g σ H ∧ ∀ (B' : Addr → Prop) H', Dom B' H' → (∀ v d, gs v d → Rep B' H' v d) →
      J.stop items.length H' ∧ ∀ n, n < items.length → J.go n H' ∧ ∀ x H'', J.yld n H' x H'' → ∃ d, items[n]? = some d ∧ Kp All H' H'' ∧ Rep B' H'' x d := fun e1 e2 => by
    rw [e2]
    exact ⟨ad, gs, r.ghMore fun v d h => (w1 v d h).less fun a _ => e1 a, w2⟩
  cases it with
  | rng1 a => exact rng (fun _ => trivial) rfl
  | rng2 a b => exact rng (fun _ => trivial) rfl
  | _ => exact gen rfl rfl
theorem set_ok {it : Slim.E} {sc : Scope} {tg iter : Expr} {env : Env} (hi : chkI N gc kws it sc tg iter = true) : ∀ x, foldedSetIterable iter env x = pure x := by
  cases it with
  | cons a r =>
    simp only [chkI, Bool.and_eq_true] at hi
    intro x
    cases iter <;> first | rfl | (simp at hi)
  | rng1 a =>
    simp only [chkI] at hi
    intro x
    cases iter <;> first | rfl | (simp at hi)
  | rng2 a b =>
    simp only [chkI] at hi
    intro x
    cases iter <;> first | rfl | (simp at hi)
  | enm a =>
    simp only [chkI] at hi
    intro x
    cases iter <;> first | rfl | (simp at hi)
  | zp a b =>
    simp only [chkI] at hi
    intro x
    cases iter <;> first | rfl | (simp at hi)
  | _ => simp [chkI] at hi

/-- a loop, from what its source yields -/
theorem go_in {n : Nat} {t : Tg} {b : Slim.S} {J : It} {items : List Slim.D} {gs : V → Slim.D → Prop} (r3 : SR S i B0 H0 (fun v d => Gh v d ∨ gs v d) ad τ g σ H)
    (w : ∀ (B' : Addr → Prop) H', Dom B' H' → (∀ v d, gs v d → Rep B' H' v d) → J.stop items.length H' ∧ ∀ n, n < items.length → J.go n H' ∧ ∀ x H'', J.yld n H' x H'' → ∃ d, items[n]? = some d ∧ Kp All H' H'' ∧ Rep B' H'' x d)
    (p1 : PostS S cls i B0 H0 Gh E Dn (forGo (fun d τ g => match bindT t d τ with
        | some τ' => run T n b τ' g
        | none => .no) items τ g)) :
    ∃ W : Nat → Nat → L2.St → Hp → Prop, (∃ m, W 0 m σ H) ∧ ∀ j m σ H, W j m σ H →
      (J.stop j H ∧ Dn.nx σ H) ∨ (J.go j H ∧ ∃ N : L2.St → Hp → Prop, (∀ σ' H', N σ' H' → ∃ m', m' < m ∧ W (j + 1) m' σ' H') ∧ ∀ x H', J.yld j H x H' → gT t x σ H' fun σ2 H2 => tS S T cls E n b { Dn with nx := N, ct := N, bk := Dn.nx } σ2 H2) := by
  let Gh' : V → Slim.D → Prop := fun v d => Gh v d ∨ gs v d
  let step : Slim.D → Sl → S.G → Out S := fun d τ g => match bindT t d τ with
    | some τ' => run T n b τ' g
    | none => .no
  let W : Nat → Nat → L2.St → Hp → Prop := fun j m σ H => m = items.length - j ∧ j ≤ items.length ∧ ∃ ad τ g, SR S i B0 H0 Gh' ad τ g σ H ∧ PostS S cls i B0 H0 Gh E Dn (forGo step (items.drop j) τ g)
  refine ⟨W, ⟨items.length, rfl, Nat.zero_le _, ad, _, g, r3, p1⟩, ?_⟩
  rintro j m σ H ⟨rfl, hj, ad, τ, g, r, p⟩
  obtain ⟨w1, w2⟩ := w _ H r.dom1 fun v d h => r.gh v d (.inl (.inr h))
  by_cases hlt : j < items.length
  · refine .inr ?_
    obtain ⟨w3, w4⟩ := w2 j hlt
    refine ⟨w3, fun σ H => ∃ ad τ g, SR S i B0 H0 Gh' ad τ g σ H ∧ PostS S cls i B0 H0 Gh E Dn (forGo step (items.drop (j + 1)) τ g), fun σ' H' w => ⟨_, by omega, rfl, hlt, w⟩, fun x H'' hy => ?_⟩
    obtain ⟨d, hd, ky, ry⟩ := w4 x H'' hy
    have r4 := r.step ky.any (GS.same r.ok ky)
    have eri := List.getElem?_eq_some_iff.mp hd
    rw [List.drop_eq_getElem_cons eri.1, eri.2] at p
    simp only [forGo, step] at p
    cases hb : bindT t d τ with
    | none => rw [hb] at p; exact p.elim
    | some τ' =>
      rw [hb] at p
      obtain ⟨hf, rfl⟩ := bindT_some hb
      refine ⟨_, d, ry, hf, fun σ' bb => ?_⟩
      obtain ⟨ad2, r5, _⟩ := r4.bind bb
      refine ⟨i, B0, H0, Gh', ad2, _, g, r5, ?_⟩
      simp only at p
      cases e : run T n b (setT t d τ) g with
      | nx τ' g' => rw [e] at p; exact fun ad' σ' H' q' => ⟨ad', τ', g', q', p⟩
      | rt d g' => rw [e] at p; exact p
      | bk τ' g' => rw [e] at p; exact fun ad' σ' H' q' => p ad' σ' H' (q'.ghLess fun _ _ => .inl)
      | ct τ' g' => rw [e] at p; exact fun ad' σ' H' q' => ⟨ad', τ', g', q', p⟩
      | ex c t g' => rw [e] at p; exact p
      | no => rw [e] at p; exact p
  · have hn' : j = items.length := by omega
    subst hn'
    rw [List.drop_length] at p
    exact .inl ⟨w1, p _ _ _ (r.ghLess fun _ _ => .inl)⟩
theorem sndS_for {n : Nat} (t : Tg) (it : Slim.E) {b : Slim.S} (ib : SndS S CX cls T kws gc k N n b) : SndS S CX cls T kws gc k N n (.for_ t it b) := by
  refine SndS.stmt (fun _ _ => rfl) fun {E sc X} G hp st h => ?_
  simp only [chk1] at h
  split at h
  · rename_i tg iter body pos
    simp only [Bool.and_eq_true] at h
    refine PS.by (ps_for hp G.calm ((snd_all it).pi G tg iter h.1.2) (pg_ok G t tg h.1.1) (ib.all G hp _ h.2) (hs := set_ok h.1.2)) fun D σ H z => ?_
    obtain ⟨i, B0, H0, Gh, ad, τ, g, r, p⟩ := z
    simp only [run] at p
    refine ⟨i, Bad B0 ad (rds it), view (rds it) τ, g, r.er _, r.eval p fun items g1 J H1 k1 wk o1 r2 p1 => ?_⟩
    split at p1
    · obtain ⟨ad', gs, r3, w⟩ := frzI_ok it r2 wk
      exact go_in r3 w p1
    · exact p1.elim
  · cases h
theorem sndS_all (n : Nat) : ∀ m : Slim.S, SndS S CX cls T kws gc k N n m
  | .nil => sndS_nil n
  | .cons s r => sndS_cons (sndS_all n s) (sndS_all n r)
  | .asg i e => sndS_asg n i e
  | .par is as => sndS_par n is as
  | .asgt t e => sndS_asgt n t e
  | .exp e => sndS_exp n e
  | .app i e => sndS_app n i e
  | .ext i e => sndS_ext n i e
  | .popt t i => sndS_popt n t i
  | .pmx ts as => sndS_pmx n ts as
  | .set i x e => sndS_set n i x e
  | .gset j key e => sndS_gset n j key e
  | .ret e => sndS_ret n e
  | .retn => sndS_retn n
  | .ife c a b => sndS_ife c (sndS_all n a) (sndS_all n b)
  | .whl c b => sndS_whl c (sndS_all n b)
  | .for_ t it b => sndS_for t it (sndS_all n b)
  | .brk => sndS_brk n
  | .cnt => sndS_cnt n
  | .pass => sndS_pass n
  | .fail => sndS_fail n
end
end Slim

set_option Elab.async false
set_option linter.all false
set_option maxRecDepth 100000
set_option maxHeartbeats 4000000
/-! SLIM 21: a def by its slim text. -/
namespace Slim
open PySem PySem.Spec PyProof.Rows L2
section
variable {P : Program} {w : World} {K : PySem.W.Frag} {mg : Str → Option Value} {base : Heap} {CX : CXT}
variable {S : GS} {cls : Cls} {T : Tab S} {kws : Str → List (List Str × List Nat)} {gc : Bool} {k : Nat}
def outR {S : GS} : Out S → Res S D
  | .nx _ g => .ok .none g
  | .rt d g => .ok d g
  | .ex c t g => .ex c t g
  | .bk _ _ => .no
  | .ct _ _ => .no
  | .no => .no

/-- the slots at a def's entry: what is given, then nothing -/
def st0 (dk : Bool) (len : Nat) (ds : List D) : Sl :=
  let xs : Sl := if dk = true then SV.dk :: ds.map SV.dat else ds.map SV.dat
  xs ++ List.replicate (len - xs.length) .un
def runF (T : Tab S) (dk : Bool) (len fuel : Nat) (m : Slim.S) (ds : List D) (g : S.G) : Res S D := outR (run T fuel m (st0 dk len ds) g)

/-- the world of a proof: what no def changes -/
structure Wor (P : Program) (w : World) (K : PySem.W.Frag) (mg : Str → Option Value) (base : Heap) (CX : CXT) (gc : Bool) : Prop where
  blt : ∀ x, x ∈ bltNames → mg x = none
  gcd : gc = true → mg "gcd" = some (.builtin "math.gcd")
  pass : ∀ (N : List Str) (qual : Str) (sc : Scope) (f : Addr) (cdv : Value) (A : Around) (out : List Env) (s : Shared) (H : Hp) (E : XK), Passes CX (cxOf CX P w K mg base N qual sc f cdv A out s H E) E
  quiet : ∀ Y : Cx, Y.prog = P → Y.w = w → Passes CX Y E0

/-- the defs of a table keep their promises -/
def TabOk (P : Program) (w : World) (K : PySem.W.Frag) (mg : Str → Option Value) (base : Heap) (CX : CXT) (S : GS) (cls : Cls) (kws : Str → List (List Str × List Nat)) (k : Nat) (T : Tab S) : Prop :=
  (∀ x a d, S.cs x = some (a, d) → mg x = some (.ref a)) ∧ ∀ f F, T f = some F → ∃ a fd ps, mg f = some (.ref a) ∧ PySem.W.keepIn K (.ref a) = true ∧ ps.length = psLen F ∧ FnG P w K mg base CX k a fd ps (spOf S cls F) ∧ Binds K fd ps [] ∧
    ∀ ks perm, (ks, perm) ∈ kws f → ks.length = F.n ∧ perm.length = F.n ∧ KwB K fd ps ks perm
theorem TabOk.good (hK : K = S.K) (W : Wor P w K mg base CX gc) (h : TabOk P w K mg base CX S cls kws k T) {N : List Str} {ps : List Str} {sc : Scope} (hs : FnScope N ps sc) {qual : Str} {f : Addr} {cdv : Value} {A : Around} {out : List Env} {s : Shared} {H : Hp} {E : XK}
    (gd : A.guards = some []) (room : Room k (A.deeper (envOfC qual sc s.heap.objs.size f cdv))) : Good S CX cls T kws gc k E N sc (blkAsg sc) (cxOf CX P w K mg base N qual sc f cdv A out s H E) where
  hN := rfl
  nd := hs.nd
  scp := rfl
  kf := hs.kind
  calm := rfl
  ck := hK
  gd := gd
  room := room
  tab := h.2
  blt := W.blt
  gcd := W.gcd
  cst := h.1
  pass := W.pass N qual sc f cdv A out s H E
  quiet := W.quiet
  asg := fun x hx => by
    unfold blkAsg at hx
    split at hx
    · rename_i e; exact ⟨.inl e, .inl rfl⟩
    · rename_i e; exact ⟨.inr e, .inl rfl⟩
    · cases hx
theorem start_sr {i : S.I} {B : Addr → Prop} {H : Hp} {g : S.G} {N : List Str} {dk : Bool} {vs : List V} {ds : List D} (ok : S.ok i g H) (sub : ∀ a, S.bad i a → B a) (dom : Dom B H) (r : RepAll B H vs ds) (zz : ∀ x a d, S.cs x = some (a, d) → Rep B H (.ref a) d) (hl : (if dk = true then ds.length + 1 else ds.length) ≤ N.length) :
    SR S i B H (fun _ _ => False) (fun _ => none) (st0 dk N.length ds) g (start N (if dk = true then S.val i :: vs else vs)) H := by
  have bd : ∀ a, Bad B (fun _ => none) [] a → B a := fun a h => by
    rcases h with h | ⟨j, h, _⟩
    · exact h
    · cases h
  have len := r.length
  refine ⟨ok, sub, dom, Kp.refl, fun j p h => (nomatch h), fun j l p h => (nomatch h), fun j d h => ?_, fun j ds' h => ?_, fun j h => ?_, fun v d z => z.elim (fun z => z.elim) fun ⟨x, a, e, z⟩ => by rw [z]; exact (zz x a d e).less bd, ?_⟩
  · cases dk with
    | true =>
      simp only [st0, if_true] at h
      unfold L2.start
      simp only [if_true]
      cases j with
      | zero => cases h
      | succ j =>
        simp only [List.cons_append, List.getElem?_cons_succ, List.map_cons] at h ⊢
        by_cases hj : j < ds.length
        · rw [List.getElem?_append_left (by simpa using hj), List.getElem?_map] at h
          rw [List.getElem?_append_left (by simpa [len] using hj), List.getElem?_map]
          cases e : ds[j]? with
          | none => rw [e] at h; cases h
          | some d' =>
            rw [e] at h
            cases h
            obtain ⟨v, h1, h2⟩ := r.get e
            exact ⟨v, by rw [h1]; rfl, h2.less bd⟩
        · rw [List.getElem?_append_right (by simpa using hj), List.getElem?_replicate] at h
          split at h <;> cases h
    | false =>
      simp only [st0, if_false, Bool.false_eq_true] at h
      unfold L2.start
      simp only [if_false, Bool.false_eq_true]
      by_cases hj : j < ds.length
      · rw [List.getElem?_append_left (by simpa using hj), List.getElem?_map] at h
        rw [List.getElem?_append_left (by simpa [len] using hj), List.getElem?_map]
        cases e : ds[j]? with
        | none => rw [e] at h; cases h
        | some d' =>
          rw [e] at h
          cases h
          obtain ⟨v, h1, h2⟩ := r.get e
          exact ⟨v, by rw [h1]; rfl, h2.less bd⟩
      · rw [List.getElem?_append_right (by simpa using hj), List.getElem?_replicate] at h
        split at h <;> cases h
  · exfalso
    have hm := List.mem_of_getElem? h
    unfold st0 at hm
    cases dk <;> simp at hm
  · cases dk with
    | true =>
      cases j with
      | zero => rfl
      | succ j =>
        exfalso
        simp only [st0, if_true, List.cons_append, List.getElem?_cons_succ] at h
        have hm := List.mem_of_getElem? h
        simp at hm
    | false =>
      exfalso
      have hm := List.mem_of_getElem? h
      simp [st0] at hm
  · unfold st0 L2.start
    cases dk <;> simp [len] at hl ⊢ <;> omega
theorem run_post {i : S.I} {B : Addr → Prop} {H : Hp} {Q : VK} {E : XK} {o : Out S} (h : Post S cls i B H (Rep B) Q E (outR o)) : PostS S cls i B H (fun _ _ => False) E { nx := fun _ H' => Q .non H', rt := Q } o := by
  cases o with
  | nx τ g => exact fun ad σ H' r => h .non H' r.kp .non r.ok
  | rt d g => exact fun v H' k1 r1 o1 => h v H' k1 r1 o1
  | bk τ g => exact h.elim
  | ct τ g => exact h.elim
  | ex c t g => exact h
  | no => exact h

/-- A DEF BY ITS SLIM TEXT -/
theorem fn_slim (hK : K = S.K) (W : Wor P w K mg base CX gc) (ht : TabOk P w K mg base CX S cls kws k T) {x qual : Str} {st : Stmt} {f : Addr} {fd : FuncData} {N ps : List Str} (F : Fun K x qual st f fd) (Sc : FnScope N ps (defScope st)) (FS : FSpec S) (n : Nat) (m : Slim.S)
    (hn : ps.length = psLen FS) (hc : chks N gc kws (defScope st) m (defBody st) = true) (hr : ∀ ds g, ds.length = FS.n → FS.f ds g = .no ∨ runF T FS.dk N.length n m ds g = FS.f ds g) :
    FnG P w K mg base CX (k + 1) f fd ps (spOf S cls FS) := by
  refine Fun.okG F Sc (fun vs H Q E z => by rw [spOf_len z, hn]) fun cdv A out s H vs Q E gd room z => ?_
  have G := ht.good hK W Sc (qual := qual) (f := f) (cdv := cdv) (A := A) (out := out) (s := s) (H := H) (E := E) gd room
  refine ⟨_, (sndS_all n m).all G (passes_of rfl) _ hc, ?_⟩
  obtain ⟨i, B, vs', ds, g, rfl, hl, ok, sub, dom, r, zz, p⟩ := z
  have hds : ds.length = FS.n := by rw [← r.length]; exact hl
  rcases hr ds g hds with e | e
  · rw [e] at p; exact p.elim
  · rw [← e] at p
    refine ⟨i, B, H, fun _ _ => False, fun _ => none, _, g, start_sr ok sub dom r zz ?_, run_post p⟩
    have hp : ps.length ≤ N.length := by have := congrArg List.length Sc.pre; rw [List.length_take] at this; omega
    rw [hds]
    rw [hn] at hp
    unfold psLen at hp
    exact hp
end
end Slim

set_option Elab.async false
set_option linter.all false
set_option maxRecDepth 100000
set_option maxHeartbeats 4000000
/-! SLIM 22: the deck of a law. -/
namespace Slim
open PySem PySem.Spec PyProof.Rows L2

/-- the deck's keys -/
structure DK where
  kl : Str
  km : Str
  kd : Str
  h1 : kl ≠ km
  h2 : kl ≠ kd
  h3 : km ≠ kd
  cs : Str → Option (Addr × Slim.D)
structure DG where
  left : List Int
  mixed : Int
  draws : Int
variable (D : DK) (K : PySem.W.Frag)
def dkKv (q : Addr) (g : DG) : List (Key × V) := [(.inr D.kl, .ref q), (.inr D.km, .int g.mixed), (.inr D.kd, .int g.draws)]
theorem inr_ne {a b : Str} (h : a ≠ b) : ¬ ((Sum.inr a : Key) = .inr b) := fun z => h (Sum.inr.inj z)
theorem dk_l (q : Addr) (g : DG) : valV (dkKv D q g) (.inr D.kl) = some (.ref q) := valV_pos rfl
theorem dk_m (q : Addr) (g : DG) : valV (dkKv D q g) (.inr D.km) = some (.int g.mixed) := by
  unfold dkKv
  rw [valV_neg (inr_ne D.h1), valV_pos rfl]
theorem dk_d (q : Addr) (g : DG) : valV (dkKv D q g) (.inr D.kd) = some (.int g.draws) := by
  unfold dkKv
  rw [valV_neg (inr_ne D.h2), valV_neg (inr_ne D.h3), valV_pos rfl]
theorem dk_pm (q : Addr) (g : DG) (n : Int) : putK (dkKv D q g) (.inr D.km) (.int n) = dkKv D q { g with mixed := n } := by
  have h1 := inr_ne D.h1
  have h3 := inr_ne (Ne.symm D.h3)
  unfold putK dkKv
  simp [h1, h3, D.h1, Ne.symm D.h3]
theorem dk_pd (q : Addr) (g : DG) (n : Int) : putK (dkKv D q g) (.inr D.kd) (.int n) = dkKv D q { g with draws := n } := by
  unfold putK dkKv
  simp [D.h2, D.h3]
@[reducible] def deckGS (K : PySem.W.Frag) : GS where
  K := K
  cs := D.cs
  cut := fun _ => none
  cutOk := fun _ _ _ _ _ e => nomatch e
  G := DG
  I := Addr × Addr
  ok i g H := H i.1 = some (.dK (dkKv D i.2 g)) ∧ H i.2 = some (.lst (g.left.map V.int))
  val i := .ref i.1
  bad i a := a = i.1 ∨ a = i.2
  chg := fun i g H a h b => by
    rcases b with rfl | rfl
    · exact ⟨_, h.1, nt_dct⟩
    · exact ⟨_, h.2, nt_lst⟩
  stay := fun i g H H' h k => ⟨k _ _ (.inl rfl) h.1, k _ _ (.inr rfl) h.2⟩
  loc i _ := i.2
  num g key := if key = D.km then some g.mixed else if key = D.kd then some g.draws else none
  lst g key := if key = D.kl then some g.left else none
  put g key n := if key = D.kd then some { g with draws := n } else none
  putl g key ns := if key = D.kl then some { g with left := ns } else none
  numOk := fun i g H key n h e => by
    split at e
    · rename_i hk; cases e; subst hk; exact ⟨_, _, rfl, h.1, dk_m D _ _⟩
    · split at e
      · rename_i hk; cases e; subst hk; exact ⟨_, _, rfl, h.1, dk_d D _ _⟩
      · cases e
  lstOk := fun i g H key ns h e => by
    split at e
    · rename_i hk; cases e; subst hk; exact ⟨_, _, rfl, h.1, dk_l D _ _, h.2⟩
    · cases e
  putOk := fun i g H key n g' h e => by
    split at e
    · rename_i hk
      cases e; subst hk
      have hne : i.2 ≠ i.1 := fun z => by
        have h2 := h.2
        rw [z, h.1] at h2
        cases h2
      refine ⟨_, _, rfl, .inl rfl, h.1, by unfold dkKv; rw [sizeLine_eq]; simp, ?_, ?_⟩
      · rw [dk_pd]; exact upd_same
      · rw [upd_ne hne]; exact h.2
    · cases e
  putlOk := fun i g H key ns g' h e => by
    split at e
    · rename_i hk
      cases e; subst hk
      have hne : i.1 ≠ i.2 := fun z => by
        have h2 := h.2
        rw [← z, h.1] at h2
        cases h2
      exact ⟨.inr rfl, by rw [upd_ne hne]; exact h.1, upd_same⟩
    · cases e

/-- the constants of a draw -/
structure DC where
  c1 : Int
  m0 : Int
  a1 : Int
  b1 : Int
  m1 : Int
  a2 : Int
  b2 : Int
  m2 : Int
  a3 : Int
  m3 : Int
def DC.good (c : DC) : Prop := (0 ≤ c.c1 ∧ c.c1 < 2 ^ 62) ∧ (0 < c.m0 ∧ c.m0 < 2 ^ 62) ∧ (0 ≤ c.a1 ∧ c.a1 < 2 ^ 62) ∧ (0 < c.m1 ∧ c.m1 < 2 ^ 62) ∧ (0 ≤ c.a2 ∧ c.a2 < 2 ^ 62) ∧ (0 < c.m2 ∧ c.m2 < 2 ^ 62) ∧ (0 ≤ c.a3 ∧ c.a3 < 2 ^ 62) ∧ (0 < c.m3 ∧ c.m3 < 2 ^ 62)
instance (c : DC) : Decidable c.good := by unfold DC.good; infer_instance
def lI (i : Int) : Slim.E := .lit (.int i)
def a1 (a : Slim.E) : Slim.E := .cons a .nil
def a2 (a b : Slim.E) : Slim.E := .cons a (.cons b .nil)

/-- the text of a draw -/
def drawS (c : DC) : Slim.S :=
  .cons (.gset 0 D.kd (.bin .add (.gget 0 D.kd) (lI 1))) <|
  .cons (.asg 2 (.bin .add (.gget 0 D.km) (.bin .mul (lI c.c1) (.gget 0 D.kd)))) <|
  .cons (.ife (.gne 0 D.kl) (.cons (.asg 3 (.gpop 0 D.kl)) <|
      .cons (.ife (.cmp .ge (.var 3) (.bin .pow (lI 10) (lI 18))) (.cons (.exp (.gapp 0 D.kl (.bin .fdiv (.var 3) (.blt .max2 (a2 (lI 2) (.var 1)))))) <| .cons (.ret (.bin .mod (.blt .int (a1 (.var 3))) (.var 1))) .nil) .nil) <|
      .cons (.asg 2 (.bin .add (.var 2) (.bin .mod (.blt .int (a1 (.var 3))) (lI c.m0)))) .nil) .nil) <|
  .cons (.asg 2 (.bin .mod (.blt .int (a1 (.bin .add (.bin .mul (.var 2) (lI c.a1)) (lI c.b1)))) (lI c.m1))) <|
  .cons (.asg 2 (.bin .mod (.blt .int (a1 (.bin .add (.bin .add (.bin .mul (.var 2) (.var 2)) (.bin .mul (lI c.a2) (.gget 0 D.kd))) (lI c.b2)))) (lI c.m2))) <|
  .cons (.asg 2 (.bin .mod (.blt .int (a1 (.bin .mul (.var 2) (lI c.a3)))) (lI c.m3))) <|
  .cons (.ret (.bin .mod (.blt .int (a1 (.bin .fdiv (.var 2) (lI 64)))) (.var 1))) .nil
def fin (c : DC) (many draws figure : Int) : Int :=
  let f1 := (figure * c.a1 + c.b1) % c.m1
  let f2 := (f1 * f1 + c.a2 * draws + c.b2) % c.m2
  ((f2 * c.a3 % c.m3) / 64) % many
def drawG (c : DC) (many : Int) (g : DG) : Int × DG :=
  let dr := g.draws + 1
  match g.left.getLast? with
  | none => (fin c many dr (g.mixed + c.c1 * dr), { g with draws := dr })
  | some cell => if cell ≥ 10 ^ 18 then (cell % many, ⟨g.left.dropLast ++ [cell / (if many > 2 then many else 2)], g.mixed, dr⟩)
    else (fin c many dr (g.mixed + c.c1 * dr + cell % c.m0), ⟨g.left.dropLast, g.mixed, dr⟩)
def drawF (c : DC) : FSpec (deckGS D K) where
  dk := true
  n := 1
  f := fun ds g => match ds with
    | [.int many] => if 0 < many ∧ many.natAbs.log2 < 9000 ∧ g.left.length ≤ 1000 then .ok (.int (drawG c many g).1) (drawG c many g).2 else .no
    | _ => .no
theorem deck_num_m (g : DG) : (deckGS D K).num g D.km = some g.mixed := if_pos rfl
theorem deck_num_d (g : DG) : (deckGS D K).num g D.kd = some g.draws := by
  show (if D.kd = D.km then _ else _) = _
  rw [if_neg (Ne.symm D.h3), if_pos rfl]
theorem deck_lst (g : DG) : (deckGS D K).lst g D.kl = some g.left := if_pos rfl
theorem deck_put (g : DG) (n : Int) : (deckGS D K).put g D.kd n = some { g with draws := n } := if_pos rfl
theorem deck_putl (g : DG) (ns : List Int) : (deckGS D K).putl g D.kl ns = some { g with left := ns } := if_pos rfl
end Slim

set_option Elab.async false
set_option linter.all false
set_option maxRecDepth 100000
set_option maxHeartbeats 4000000
/-! SLIM 23: the run of a draw. -/
namespace Slim
open PySem PySem.Spec PyProof.Rows L2
section
variable {S : GS} {T : Tab S} {n : Nat} {τ τ' : Sl} {g g' : S.G}
theorem run_cons {s r : Slim.S} (h : run T n s τ g = .nx τ' g') : run T n (.cons s r) τ g = run T n r τ' g' := by
  simp only [run, h, Out.seq]
theorem run_stop {s r : Slim.S} {o : Out S} (h : run T n s τ g = o) (q : ∀ τ g, o ≠ .nx τ g) : run T n (.cons s r) τ g = o := by
  simp only [run, h]
  cases o <;> first | rfl | exact absurd rfl (q _ _)
theorem run_nil : run T n .nil τ g = .nx τ g := rfl
end
theorem mul_l {c j : Int} (h : 0 ≤ c ∧ c < 2 ^ 62) : mulD (.int c) (.int j) = some (.int (c * j)) := by
  exact if_pos (.inl (.inl ⟨by omega, by omega⟩))
theorem mul_r {c j : Int} (h : 0 ≤ c ∧ c < 2 ^ 62) : mulD (.int j) (.int c) = some (.int (j * c)) := by
  exact if_pos (.inl (.inr ⟨by omega, by omega⟩))
theorem mod_p {i j : Int} (h : 0 < j) : modD (.int i) (.int j) = some (.int (i % j)) := by
  exact if_pos h
theorem fdiv_p {i j : Int} (h : 0 < j) (h2 : j.natAbs.log2 < 9000) : fdivD (.int i) (.int j) = some (.int (i / j)) := by
  exact if_pos ⟨h, h2⟩
theorem pow18 : powD (.int 10) (.int 18) = some (.int (10 ^ 18)) := by
  show (if CPow 10 18 then some (PyData.int (10 ^ (18 : Int).toNat)) else none) = _
  rw [if_pos (show CPow 10 18 by unfold CPow; decide)]
  rfl
theorem add_i {i j : Int} : addD (.int i) (.int j) = some (.int (i + j)) := rfl

variable (D : DK) (K : PySem.W.Frag) (c : DC)
theorem draw_run (T : Tab (deckGS D K)) (n : Nat) (hc : c.good) (ds : List Slim.D) (g : DG) : (drawF D K c).f ds g = .no ∨ runF T true 4 n (drawS D c) ds g = (drawF D K c).f ds g := by
  unfold drawF
  simp only
  split
  · rename_i many
    split
    · rename_i hm
      right
      obtain ⟨hm, hlog, hlen⟩ := hm
      obtain ⟨k1, k2, k3, k4, k5, k6, k7, k8⟩ := hc
      unfold runF drawS
      show outR (run T n _ [.dk, .dat (.int many), .un, .un] g) = _
      have s1 : run T n (.gset 0 D.kd (.bin .add (.gget 0 D.kd) (lI 1))) [.dk, .dat (.int many), .un, .un] g = .nx [.dk, .dat (.int many), .un, .un] { g with draws := g.draws + 1 } := by
        simp only [Slim.run, Slim.Out.seq, Slim.evV, Slim.testV, Slim.ev, Slim.evs, Slim.Res.bind, Slim.Res.of, Slim.Res.out, Slim.lI, Slim.a1, Slim.a2, Slim.rds, Slim.view, Slim.viewAt, Slim.getD, List.append_nil, List.nil_append, List.cons_append, List.getElem?_cons_zero, List.getElem?_cons_succ, Slim.bop, Slim.add_i, Slim.blt, Slim.un, Slim.bi, Slim.intD, Option.map_some, Option.bind_some, Slim.tru, Slim.asgS, Slim.isNew, Slim.aft, Slim.noMut, List.set_cons_zero, List.set_cons_succ, Bool.false_eq_true, if_false, if_true, Slim.cop, Slim.ltI, Slim.max2D, D.h3.symm, ite_true, ite_false, deck_num_d, deck_put]
      rw [run_cons s1]
      have s2 : ∀ g : DG, run T n (.asg 2 (.bin .add (.gget 0 D.km) (.bin .mul (lI c.c1) (.gget 0 D.kd)))) [.dk, .dat (.int many), .un, .un] g = .nx [.dk, .dat (.int many), .dat (.int (g.mixed + c.c1 * g.draws)), .un] g := fun g => by
        simp only [Slim.run, Slim.Out.seq, Slim.evV, Slim.testV, Slim.ev, Slim.evs, Slim.Res.bind, Slim.Res.of, Slim.Res.out, Slim.lI, Slim.a1, Slim.a2, Slim.rds, Slim.view, Slim.viewAt, Slim.getD, List.append_nil, List.nil_append, List.cons_append, List.getElem?_cons_zero, List.getElem?_cons_succ, Slim.bop, Slim.add_i, Slim.blt, Slim.un, Slim.bi, Slim.intD, Option.map_some, Option.bind_some, Slim.tru, Slim.asgS, Slim.isNew, Slim.aft, Slim.noMut, List.set_cons_zero, List.set_cons_succ, Bool.false_eq_true, if_false, if_true, Slim.cop, Slim.ltI, Slim.max2D, D.h3.symm, ite_true, ite_false, deck_num_m, deck_num_d, mul_l k1]
      rw [run_cons (s2 _)]
      have s4 : ∀ (x : Int) (sv : SV) (g : DG), outR (run T n (.cons (.asg 2 (.bin .mod (.blt .int (a1 (.bin .add (.bin .mul (.var 2) (lI c.a1)) (lI c.b1)))) (lI c.m1))) <|
          .cons (.asg 2 (.bin .mod (.blt .int (a1 (.bin .add (.bin .add (.bin .mul (.var 2) (.var 2)) (.bin .mul (lI c.a2) (.gget 0 D.kd))) (lI c.b2)))) (lI c.m2))) <|
          .cons (.asg 2 (.bin .mod (.blt .int (a1 (.bin .mul (.var 2) (lI c.a3)))) (lI c.m3))) <|
          .cons (.ret (.bin .mod (.blt .int (a1 (.bin .fdiv (.var 2) (lI 64)))) (.var 1))) .nil) [.dk, .dat (.int many), .dat (.int x), sv] g) = .ok (.int (fin c many g.draws x)) g := fun x sv g => by
        have t1 : run T n (.asg 2 (.bin .mod (.blt .int (a1 (.bin .add (.bin .mul (.var 2) (lI c.a1)) (lI c.b1)))) (lI c.m1))) [.dk, .dat (.int many), .dat (.int x), sv] g = .nx [.dk, .dat (.int many), .dat (.int ((x * c.a1 + c.b1) % c.m1)), sv] g := by
          cases sv <;> simp only [Slim.run, Slim.Out.seq, Slim.evV, Slim.testV, Slim.ev, Slim.evs, Slim.Res.bind, Slim.Res.of, Slim.Res.out, Slim.lI, Slim.a1, Slim.a2, Slim.rds, Slim.view, Slim.viewAt, Slim.getD, List.append_nil, List.nil_append, List.cons_append, List.getElem?_cons_zero, List.getElem?_cons_succ, Slim.bop, Slim.add_i, Slim.blt, Slim.un, Slim.bi, Slim.intD, Option.map_some, Option.bind_some, Slim.tru, Slim.asgS, Slim.isNew, Slim.aft, Slim.noMut, List.set_cons_zero, List.set_cons_succ, Bool.false_eq_true, if_false, if_true, Slim.cop, Slim.ltI, Slim.max2D, D.h3.symm, ite_true, ite_false, mul_r k3, mod_p k4.1]
        rw [run_cons t1]
        generalize h1 : (x * c.a1 + c.b1) % c.m1 = f1
        have b1 : 0 ≤ f1 ∧ f1 < 2 ^ 62 := by
          rw [← h1]
          exact ⟨Int.emod_nonneg _ (by omega), Int.lt_trans (Int.emod_lt_of_pos _ k4.1) k4.2⟩
        have t2 : run T n (.asg 2 (.bin .mod (.blt .int (a1 (.bin .add (.bin .add (.bin .mul (.var 2) (.var 2)) (.bin .mul (lI c.a2) (.gget 0 D.kd))) (lI c.b2)))) (lI c.m2))) [.dk, .dat (.int many), .dat (.int f1), sv] g =
            .nx [.dk, .dat (.int many), .dat (.int ((f1 * f1 + c.a2 * g.draws + c.b2) % c.m2)), sv] g := by
          cases sv <;> simp only [Slim.run, Slim.Out.seq, Slim.evV, Slim.testV, Slim.ev, Slim.evs, Slim.Res.bind, Slim.Res.of, Slim.Res.out, Slim.lI, Slim.a1, Slim.a2, Slim.rds, Slim.view, Slim.viewAt, Slim.getD, List.append_nil, List.nil_append, List.cons_append, List.getElem?_cons_zero, List.getElem?_cons_succ, Slim.bop, Slim.add_i, Slim.blt, Slim.un, Slim.bi, Slim.intD, Option.map_some, Option.bind_some, Slim.tru, Slim.asgS, Slim.isNew, Slim.aft, Slim.noMut, List.set_cons_zero, List.set_cons_succ, Bool.false_eq_true, if_false, if_true, Slim.cop, Slim.ltI, Slim.max2D, D.h3.symm, ite_true, ite_false, deck_num_d, mul_l b1, mul_l k5, mod_p k6.1]
        rw [run_cons t2]
        generalize h2 : (f1 * f1 + c.a2 * g.draws + c.b2) % c.m2 = f2
        have t3 : run T n (.asg 2 (.bin .mod (.blt .int (a1 (.bin .mul (.var 2) (lI c.a3)))) (lI c.m3))) [.dk, .dat (.int many), .dat (.int f2), sv] g = .nx [.dk, .dat (.int many), .dat (.int (f2 * c.a3 % c.m3)), sv] g := by
          cases sv <;> simp only [Slim.run, Slim.Out.seq, Slim.evV, Slim.testV, Slim.ev, Slim.evs, Slim.Res.bind, Slim.Res.of, Slim.Res.out, Slim.lI, Slim.a1, Slim.a2, Slim.rds, Slim.view, Slim.viewAt, Slim.getD, List.append_nil, List.nil_append, List.cons_append, List.getElem?_cons_zero, List.getElem?_cons_succ, Slim.bop, Slim.add_i, Slim.blt, Slim.un, Slim.bi, Slim.intD, Option.map_some, Option.bind_some, Slim.tru, Slim.asgS, Slim.isNew, Slim.aft, Slim.noMut, List.set_cons_zero, List.set_cons_succ, Bool.false_eq_true, if_false, if_true, Slim.cop, Slim.ltI, Slim.max2D, D.h3.symm, ite_true, ite_false, mul_r k7, mod_p k8.1]
        rw [run_cons t3]
        have t4 : run T n (.ret (.bin .mod (.blt .int (a1 (.bin .fdiv (.var 2) (lI 64)))) (.var 1))) [.dk, .dat (.int many), .dat (.int (f2 * c.a3 % c.m3)), sv] g = .rt (.int ((f2 * c.a3 % c.m3) / 64 % many)) g := by
          cases sv <;> simp only [Slim.run, Slim.Out.seq, Slim.evV, Slim.testV, Slim.ev, Slim.evs, Slim.Res.bind, Slim.Res.of, Slim.Res.out, Slim.lI, Slim.a1, Slim.a2, Slim.rds, Slim.view, Slim.viewAt, Slim.getD, List.append_nil, List.nil_append, List.cons_append, List.getElem?_cons_zero, List.getElem?_cons_succ, Slim.bop, Slim.add_i, Slim.blt, Slim.un, Slim.bi, Slim.intD, Option.map_some, Option.bind_some, Slim.tru, Slim.asgS, Slim.isNew, Slim.aft, Slim.noMut, List.set_cons_zero, List.set_cons_succ, Bool.false_eq_true, if_false, if_true, Slim.cop, Slim.ltI, Slim.max2D, D.h3.symm, ite_true, ite_false, fdiv_p (j := 64) (by decide) (by decide), mod_p hm]
        rw [run_stop t4 (fun _ _ z => by cases z)]
        simp only [outR, fin, h1, h2]
      simp only
      generalize hx : g.mixed + c.c1 * (g.draws + 1) = x
      have hd : ∀ l : List Int, ({ left := l, mixed := g.mixed, draws := g.draws + 1 } : DG).draws = g.draws + 1 := fun _ => rfl
      cases hlast : g.left.getLast? with
      | none =>
        have hnil : g.left = [] := List.getLast?_eq_none_iff.mp hlast
        have s3 : ∀ A : Slim.S, run T n (.ife (.gne 0 D.kl) A .nil) [.dk, .dat (.int many), .dat (.int x), .un] { g with draws := g.draws + 1 } = .nx [.dk, .dat (.int many), .dat (.int x), .un] { g with draws := g.draws + 1 } := fun A => by
          have hl : g.left.length ≤ lim := by unfold lim; omega
          simp only [Slim.run, Slim.Out.seq, Slim.evV, Slim.testV, Slim.ev, Slim.evs, Slim.Res.bind, Slim.Res.of, Slim.Res.out, Slim.lI, Slim.a1, Slim.a2, Slim.rds, Slim.view, Slim.viewAt, Slim.getD, List.append_nil, List.nil_append, List.cons_append, List.getElem?_cons_zero, List.getElem?_cons_succ, Slim.bop, Slim.add_i, Slim.blt, Slim.un, Slim.bi, Slim.intD, Option.map_some, Option.bind_some, Slim.tru, Slim.asgS, Slim.isNew, Slim.aft, Slim.noMut, List.set_cons_zero, List.set_cons_succ, Bool.false_eq_true, if_false, if_true, Slim.cop, Slim.ltI, Slim.max2D, D.h3.symm, ite_true, ite_false, deck_lst, hl, hnil, List.isEmpty_nil, Bool.not_true, List.length_nil, Nat.zero_le]
        rw [run_cons (s3 _), s4 x .un]
        simp only [drawG, hlast, hx]
      | some cell =>
        have hnil : g.left.isEmpty = false := by
          cases h : g.left with
          | nil => rw [h] at hlast; cases hlast
          | cons _ _ => rfl
        have p1 : run T n (.asg 3 (.gpop 0 D.kl)) [.dk, .dat (.int many), .dat (.int x), .un] { g with draws := g.draws + 1 } = .nx [.dk, .dat (.int many), .dat (.int x), .dat (.int cell)] ⟨g.left.dropLast, g.mixed, g.draws + 1⟩ := by
          simp only [Slim.run, Slim.Out.seq, Slim.evV, Slim.testV, Slim.ev, Slim.evs, Slim.Res.bind, Slim.Res.of, Slim.Res.out, Slim.lI, Slim.a1, Slim.a2, Slim.rds, Slim.view, Slim.viewAt, Slim.getD, List.append_nil, List.nil_append, List.cons_append, List.getElem?_cons_zero, List.getElem?_cons_succ, Slim.bop, Slim.add_i, Slim.blt, Slim.un, Slim.bi, Slim.intD, Option.map_some, Option.bind_some, Slim.tru, Slim.asgS, Slim.isNew, Slim.aft, Slim.noMut, List.set_cons_zero, List.set_cons_succ, Bool.false_eq_true, if_false, if_true, Slim.cop, Slim.ltI, Slim.max2D, D.h3.symm, ite_true, ite_false, deck_lst, hlast, deck_putl]
        have hl : g.left.length ≤ lim := by unfold lim; omega
        by_cases hb : cell ≥ 10 ^ 18
        · have p2 : run T n (.ife (.cmp .ge (.var 3) (.bin .pow (lI 10) (lI 18))) (.cons (.exp (.gapp 0 D.kl (.bin .fdiv (.var 3) (.blt .max2 (a2 (lI 2) (.var 1)))))) <| .cons (.ret (.bin .mod (.blt .int (a1 (.var 3))) (.var 1))) .nil) .nil)
              [.dk, .dat (.int many), .dat (.int x), .dat (.int cell)] ⟨g.left.dropLast, g.mixed, g.draws + 1⟩ = .rt (.int (cell % many)) ⟨g.left.dropLast ++ [cell / (if many > 2 then many else 2)], g.mixed, g.draws + 1⟩ := by
            have hq : 0 < (if many > 2 then many else 2) ∧ (if many > 2 then many else 2 : Int).natAbs.log2 < 9000 := by
              split
              · exact ⟨hm, hlog⟩
              · exact ⟨by decide, by decide⟩
            have hlen2 : g.left.dropLast.length < lim := by rw [List.length_dropLast]; unfold lim; omega
            simp only [Slim.run, Slim.Out.seq, Slim.evV, Slim.testV, Slim.ev, Slim.evs, Slim.Res.bind, Slim.Res.of, Slim.Res.out, Slim.lI, Slim.a1, Slim.a2, Slim.rds, Slim.view, Slim.viewAt, Slim.getD, List.append_nil, List.nil_append, List.cons_append, List.getElem?_cons_zero, List.getElem?_cons_succ, Slim.bop, Slim.add_i, Slim.blt, Slim.un, Slim.bi, Slim.intD, Option.map_some, Option.bind_some, Slim.tru, Slim.asgS, Slim.isNew, Slim.aft, Slim.noMut, List.set_cons_zero, List.set_cons_succ, Bool.false_eq_true, if_false, if_true, Slim.cop, Slim.ltI, Slim.max2D, D.h3.symm, ite_true, ite_false, pow18, hb, decide_true, deck_lst, fdiv_p hq.1 hq.2, hlen2, deck_putl, mod_p hm]
          have s3 : ∀ B : Slim.S, run T n (.ife (.gne 0 D.kl) (.cons (.asg 3 (.gpop 0 D.kl)) <|
            .cons (.ife (.cmp .ge (.var 3) (.bin .pow (lI 10) (lI 18))) (.cons (.exp (.gapp 0 D.kl (.bin .fdiv (.var 3) (.blt .max2 (a2 (lI 2) (.var 1)))))) <| .cons (.ret (.bin .mod (.blt .int (a1 (.var 3))) (.var 1))) .nil) .nil) B) .nil)
              [.dk, .dat (.int many), .dat (.int x), .un] { g with draws := g.draws + 1 } = .rt (.int (cell % many)) ⟨g.left.dropLast ++ [cell / (if many > 2 then many else 2)], g.mixed, g.draws + 1⟩ := fun B => by
            have e : run T n (.cons (.asg 3 (.gpop 0 D.kl)) <|
              .cons (.ife (.cmp .ge (.var 3) (.bin .pow (lI 10) (lI 18))) (.cons (.exp (.gapp 0 D.kl (.bin .fdiv (.var 3) (.blt .max2 (a2 (lI 2) (.var 1)))))) <| .cons (.ret (.bin .mod (.blt .int (a1 (.var 3))) (.var 1))) .nil) .nil) B)
              [.dk, .dat (.int many), .dat (.int x), .un] { g with draws := g.draws + 1 } = .rt (.int (cell % many)) ⟨g.left.dropLast ++ [cell / (if many > 2 then many else 2)], g.mixed, g.draws + 1⟩ := by
              rw [run_cons p1, run_stop p2 (fun _ _ z => by cases z)]
            rw [← e]
            generalize Slim.S.cons (.asg 3 (.gpop 0 D.kl)) _ = Z
            simp only [Slim.run, Slim.Out.seq, Slim.evV, Slim.testV, Slim.ev, Slim.evs, Slim.Res.bind, Slim.Res.of, Slim.Res.out, Slim.lI, Slim.a1, Slim.a2, Slim.rds, Slim.view, Slim.viewAt, Slim.getD, List.append_nil, List.nil_append, List.cons_append, List.getElem?_cons_zero, List.getElem?_cons_succ, Slim.bop, Slim.add_i, Slim.blt, Slim.un, Slim.bi, Slim.intD, Option.map_some, Option.bind_some, Slim.tru, Slim.asgS, Slim.isNew, Slim.aft, Slim.noMut, List.set_cons_zero, List.set_cons_succ, Bool.false_eq_true, if_false, if_true, Slim.cop, Slim.ltI, Slim.max2D, D.h3.symm, ite_true, ite_false, deck_lst, hl, hnil, Bool.not_false]
          rw [run_stop (s3 _) (fun _ _ z => by cases z)]
          simp only [outR, drawG, hlast, hb, if_true]
        · have p2 : run T n (.ife (.cmp .ge (.var 3) (.bin .pow (lI 10) (lI 18))) (.cons (.exp (.gapp 0 D.kl (.bin .fdiv (.var 3) (.blt .max2 (a2 (lI 2) (.var 1)))))) <| .cons (.ret (.bin .mod (.blt .int (a1 (.var 3))) (.var 1))) .nil) .nil)
              [.dk, .dat (.int many), .dat (.int x), .dat (.int cell)] ⟨g.left.dropLast, g.mixed, g.draws + 1⟩ = .nx [.dk, .dat (.int many), .dat (.int x), .dat (.int cell)] ⟨g.left.dropLast, g.mixed, g.draws + 1⟩ := by
            simp only [Slim.run, Slim.Out.seq, Slim.evV, Slim.testV, Slim.ev, Slim.evs, Slim.Res.bind, Slim.Res.of, Slim.Res.out, Slim.lI, Slim.a1, Slim.a2, Slim.rds, Slim.view, Slim.viewAt, Slim.getD, List.append_nil, List.nil_append, List.cons_append, List.getElem?_cons_zero, List.getElem?_cons_succ, Slim.bop, Slim.add_i, Slim.blt, Slim.un, Slim.bi, Slim.intD, Option.map_some, Option.bind_some, Slim.tru, Slim.asgS, Slim.isNew, Slim.aft, Slim.noMut, List.set_cons_zero, List.set_cons_succ, Bool.false_eq_true, if_false, if_true, Slim.cop, Slim.ltI, Slim.max2D, D.h3.symm, ite_true, ite_false, pow18, hb, decide_false]
          have p3 : run T n (.asg 2 (.bin .add (.var 2) (.bin .mod (.blt .int (a1 (.var 3))) (lI c.m0)))) [.dk, .dat (.int many), .dat (.int x), .dat (.int cell)] ⟨g.left.dropLast, g.mixed, g.draws + 1⟩ =
              .nx [.dk, .dat (.int many), .dat (.int (x + cell % c.m0)), .dat (.int cell)] ⟨g.left.dropLast, g.mixed, g.draws + 1⟩ := by
            simp only [Slim.run, Slim.Out.seq, Slim.evV, Slim.testV, Slim.ev, Slim.evs, Slim.Res.bind, Slim.Res.of, Slim.Res.out, Slim.lI, Slim.a1, Slim.a2, Slim.rds, Slim.view, Slim.viewAt, Slim.getD, List.append_nil, List.nil_append, List.cons_append, List.getElem?_cons_zero, List.getElem?_cons_succ, Slim.bop, Slim.add_i, Slim.blt, Slim.un, Slim.bi, Slim.intD, Option.map_some, Option.bind_some, Slim.tru, Slim.asgS, Slim.isNew, Slim.aft, Slim.noMut, List.set_cons_zero, List.set_cons_succ, Bool.false_eq_true, if_false, if_true, Slim.cop, Slim.ltI, Slim.max2D, D.h3.symm, ite_true, ite_false, mod_p k2.1]
          have s3 : run T n (.ife (.gne 0 D.kl) (.cons (.asg 3 (.gpop 0 D.kl)) <|
            .cons (.ife (.cmp .ge (.var 3) (.bin .pow (lI 10) (lI 18))) (.cons (.exp (.gapp 0 D.kl (.bin .fdiv (.var 3) (.blt .max2 (a2 (lI 2) (.var 1)))))) <| .cons (.ret (.bin .mod (.blt .int (a1 (.var 3))) (.var 1))) .nil) .nil) <|
            .cons (.asg 2 (.bin .add (.var 2) (.bin .mod (.blt .int (a1 (.var 3))) (lI c.m0)))) .nil) .nil)
              [.dk, .dat (.int many), .dat (.int x), .un] { g with draws := g.draws + 1 } = .nx [.dk, .dat (.int many), .dat (.int (x + cell % c.m0)), .dat (.int cell)] ⟨g.left.dropLast, g.mixed, g.draws + 1⟩ := by
            have e := (run_cons (T := T) (n := n) (r := .cons (.ife (.cmp .ge (.var 3) (.bin .pow (lI 10) (lI 18))) (.cons (.exp (.gapp 0 D.kl (.bin .fdiv (.var 3) (.blt .max2 (a2 (lI 2) (.var 1)))))) <| .cons (.ret (.bin .mod (.blt .int (a1 (.var 3))) (.var 1))) .nil) .nil) <|
              .cons (.asg 2 (.bin .add (.var 2) (.bin .mod (.blt .int (a1 (.var 3))) (lI c.m0)))) .nil) p1).trans ((run_cons p2).trans ((run_cons p3).trans run_nil))
            rw [← e]
            generalize Slim.S.cons (.asg 3 (.gpop 0 D.kl)) _ = Z
            simp only [Slim.run, Slim.Out.seq, Slim.evV, Slim.testV, Slim.ev, Slim.evs, Slim.Res.bind, Slim.Res.of, Slim.Res.out, Slim.lI, Slim.a1, Slim.a2, Slim.rds, Slim.view, Slim.viewAt, Slim.getD, List.append_nil, List.nil_append, List.cons_append, List.getElem?_cons_zero, List.getElem?_cons_succ, Slim.bop, Slim.add_i, Slim.blt, Slim.un, Slim.bi, Slim.intD, Option.map_some, Option.bind_some, Slim.tru, Slim.asgS, Slim.isNew, Slim.aft, Slim.noMut, List.set_cons_zero, List.set_cons_succ, Bool.false_eq_true, if_false, if_true, Slim.cop, Slim.ltI, Slim.max2D, D.h3.symm, ite_true, ite_false, deck_lst, hl, hnil, Bool.not_false]
          rw [run_cons s3, s4 _ (.dat (.int cell))]
          simp only [drawG, hlast, hb, if_false, hx]
    · exact .inl rfl
  · exact .inl rfl
end Slim

set_option Elab.async false
set_option linter.all false
set_option maxRecDepth 100000
set_option maxHeartbeats 4000000
/-! SLIM 24: a deck is made. -/
namespace Slim
open PySem PySem.Spec PyProof.Rows L2
def scrGS (K : PySem.W.Frag) : GS where
  K := K
  cs := fun _ => none
  G := List Int
  I := Addr × Bool
  ok i ns H := (i.2 = true → ∃ o, H i.1 = some (.frz o (.lst (ns.map V.int)))) ∧
    (i.2 = false → ∃ (o : Obj) (its : Array Value) (n : Nat), K.lookup i.1 = some o ∧ o.cls = .type "list" ∧ o.dict = none ∧ o.data = .seq its n ∧ its.size ≤ sizeLine ∧ Vals (ns.map V.int) its.toList)
  val i := .ref i.1
  bad i a := i.2 = true ∧ a = i.1
  chg := fun i g H a h b => by
    obtain ⟨b1, rfl⟩ := b
    obtain ⟨o, h⟩ := h.1 b1
    exact ⟨_, h, nt_frz⟩
  stay := fun i g H H' h k => ⟨fun b => let ⟨o, e⟩ := h.1 b; ⟨o, k _ _ ⟨b, rfl⟩ e⟩, h.2⟩
  cut := some
  cutOk := fun i g H ns h e => by
    cases e
    refine ⟨i.1, rfl, ?_⟩
    cases b : i.2 with
    | true =>
      obtain ⟨o, h⟩ := h.1 b
      exact .inl (.inr ⟨o, h⟩)
    | false => exact .inr (h.2 b)
  loc := fun _ _ => 0
  num := fun _ _ => none
  lst := fun _ _ => none
  put := fun _ _ _ => none
  putl := fun _ _ _ => none
  numOk := fun _ _ _ _ _ _ e => nomatch e
  lstOk := fun _ _ _ _ _ _ e => nomatch e
  putOk := fun _ _ _ _ _ _ _ e => nomatch e
  putlOk := fun _ _ _ _ _ _ _ e => nomatch e

/-- nothing is held but what is fixed -/
def OnlyZ (H : Hp) : Prop := ∀ b, H b = none ∨ ∃ o u, H b = some (.frz o u)

/-- the promise of _law_deck -/
def spDeck (D : DK) (K : PySem.W.Frag) : Sp := fun vs H Q _ => ∃ (a : Addr) (ns : List Int), vs = [.ref a] ∧ SqL K H a (ns.map V.int) ∧ ns.length ≤ 63 ∧ OnlyZ H ∧
  ∀ (i : Addr × Addr) g H', (deckGS D K).ok i g H' → g.left.length ≤ 63 → Kp (fun c => c = a) H H' → Q (.ref i.1) H'
def deckB (D : DK) (m1 m2 : Slim.S) (ex : Slim.E) (N : List Str) (kws : Str → List (List Str × List Nat)) (sc : Scope) : List Stmt → Bool
  | [s1, s2, .Return (some (.Dict [some (.Constant (.str a) _ _), some (.Constant (.str b) _ _), some (.Constant (.str c) _ _)] [e1, e2, e3] _)) _] =>
    decide (a = D.kl) && decide (b = D.km) && decide (c = D.kd) && chk1 N false kws sc m1 s1 && chk1 N false kws sc m2 s2 && chk N false kws ex sc e1 && chk N false kws (.var 1) sc e2 && chk N false kws (lI 0) sc e3
  | _ => false
theorem merge3 (D : DK) (q : Addr) (m : Int) : mergeK [] [(.inr D.kl, V.ref q), (.inr D.km, V.int m), (.inr D.kd, V.int 0)] = dkKv D q ⟨[], m, 0⟩ := by
  unfold mergeK dkKv
  simp [List.foldl, putK, D.h1, D.h2, D.h3, Ne.symm D.h1, Ne.symm D.h2, Ne.symm D.h3]
theorem start_scr {K : PySem.W.Frag} {H : Hp} {a : Addr} {ns : List Int} (h : SqL K H a (ns.map V.int)) (o : OnlyZ H) : ∃ b, (scrGS K).ok (a, b) ns H := by
  rcases h with h | h
  · refine ⟨true, fun _ => ?_, fun z => nomatch z⟩
    rcases h with h | h
    · exfalso
      rcases o a with e | ⟨_, _, e⟩ <;> (rw [h] at e; cases e)
    · exact h
  · exact ⟨false, fun z => (nomatch z), fun _ => h⟩
section
variable {P : Program} {w : World} {K : PySem.W.Frag} {mg : Str → Option Value} {base : Heap} {CX : CXT} {kws : Str → List (List Str × List Nat)}
theorem deck_ok (W : Wor P w K mg base CX false) (D : DK) {x qual : Str} {st : Stmt} {f : Addr} {fd : FuncData} {N : List Str} {nm : Str} (F : Fun K x qual st f fd) (Sc : FnScope N [nm] (defScope st)) (m1 m2 : Slim.S) (ex : Slim.E)
    (hN : N.length = 3) (hc : deckB D m1 m2 ex N kws (defScope st) (defBody st) = true)
    (r1 : ∀ ns : List Int, ∃ m' : Int, run (fun _ => none : Tab (scrGS K)) 0 m1 [.dk, .un, .un] ns = .nx [.dk, .dat (.int m'), .un] ns)
    (r2 : ∀ (ns : List Int) (m' : Int), ns.length ≤ 63 → ∃ (m'' : Int) (sv : SV), run (fun _ => none : Tab (scrGS K)) 0 m2 [.dk, .dat (.int m'), .un] ns = .nx [.dk, .dat (.int m''), sv] ns ∧ (sv = .un ∨ ∃ d, sv = .dat d))
    (r3 : ∀ (ns : List Int) (m' : Int) (sv : SV), ns.length ≤ 63 → (sv = .un ∨ ∃ d, sv = .dat d) → ∃ ns' : List Int, evV (fun _ => none : Tab (scrGS K)) ex [.dk, .dat (.int m'), sv] ns = .ok (.list (ns'.map .int)) ns ∧ ns'.length ≤ 63) :
    FnG P w K mg base CX 1 f fd [nm] (spDeck D K) := by
  refine Fun.okG (k := 0) F Sc (fun vs H Q E z => by obtain ⟨a, ns, rfl, _⟩ := z; rfl) fun cdv A out s H vs Q E gd room z => ?_
  have ht : TabOk P w K mg base CX (scrGS K) (fun _ => none) kws 0 (fun _ => none) := ⟨fun _ _ _ e => (nomatch e), fun _ _ e => (nomatch e)⟩
  have G := ht.good rfl W Sc (qual := qual) (f := f) (cdv := cdv) (A := A) (out := out) (s := s) (H := H) (E := E) gd room
  obtain ⟨a, ns, rfl, hs, hl, ho, q⟩ := z
  obtain ⟨b, ok⟩ := start_scr hs ho
  generalize hbody : defBody st = body at hc
  unfold deckB at hc
  split at hc
  · rename_i s1 s2 ka k1 p1 kb k2 p2 kc k3 p3 e1 e2 e3 p4 p5
    simp only [Bool.and_eq_true, decide_eq_true_eq] at hc
    obtain ⟨⟨⟨⟨⟨⟨⟨rfl, rfl⟩, rfl⟩, c1⟩, c2⟩, c3⟩, c4⟩, c5⟩ := hc
    refine ⟨_, pss_cons ((sndS_all 0 m1).one G (passes_of rfl) _ c1) (pss_cons ((sndS_all 0 m2).one G (passes_of rfl) _ c2) (pss_cons (ps_ret (pe_disp (pps_cons pe_str ((snd_all ex).pe G _ c3) (pps_cons pe_str ((snd_all (.var 1)).pe G _ c4) (pps_cons pe_str ((snd_all (lI 0)).pe G _ c5) pps_nil))) rfl rfl (by simp) (Nat.le_of_ble_eq_true rfl))) pss_nil)), ?_⟩
    have sr : SR (scrGS K) (a, b) ((scrGS K).bad (a, b)) H (fun _ _ => False) (fun _ => none) [.dk, .un, .un] ns (L2.start N [.ref a]) H := by
      have e : st0 true N.length [] = [.dk, .un, .un] := by rw [hN]; rfl
      rw [← e]
      exact start_sr (S := scrGS K) (i := (a, b)) (dk := true) (vs := []) (ds := []) ok (fun _ h => h) (fun c hc => (scrGS K).chg (a, b) ns H c ok hc) .nil (fun _ _ _ e => nomatch e) (by rw [hN]; decide)
    obtain ⟨m', h1⟩ := r1 ns
    refine ⟨(a, b), _, H, _, _, _, ns, sr, ?_⟩
    rw [h1]
    intro ad1 σ1 H1 sr1
    obtain ⟨m2', sv, h2, hsv⟩ := r2 ns m' hl
    refine ⟨(a, b), _, H, _, _, _, ns, sr1, ?_⟩
    rw [h2]
    intro ad2 σ2 H2 sr2
    obtain ⟨ns', h3, hl'⟩ := r3 ns m2' sv hl hsv
    intro p hp
    have nbp : ¬ (scrGS K).bad (a, b) p := fun z => by
      obtain ⟨o, e, _⟩ := (scrGS K).chg (a, b) ns H2 p sr2.ok z
      rw [hp] at e; cases e
    have ok3 : (scrGS K).ok (a, b) ns (upd H2 p (.dK [])) := (scrGS K).stay _ _ _ _ sr2.ok fun c o hb e => by
      rw [upd_ne (fun z => nbp (by rw [← z]; exact hb))]; exact e
    have sr3 := sr2.step (Kp.new hp) ok3
    refine ⟨(a, b), _, _, ns, sr3.er (rds ex), ?_⟩
    unfold evV at h3
    rw [h3]
    intro v H4 k4 rv o4
    obtain ⟨q', xs, rfl, _, hq, rx⟩ := rv.lstAt
    have ex := rx.ints
    subst ex
    have hp4 : H4 p = some (.dK []) := k4 p _ upd_same nbp
    have sr4 := sr3.step k4 o4
    refine ⟨(a, b), _, _, ns, sr4.er [1], ?_⟩
    have e1 : ev (scrGS K) (fun _ => none) (.var 1) (view [1] [.dk, .dat (.int m2'), sv]) ns = .ok (.int m2') ns := rfl
    rw [e1]
    intro v5 H5 k5 rv5 o5
    cases rv5.intAt
    have sr5 := sr4.step k5 o5
    refine ⟨(a, b), _, _, ns, sr5.er [], ?_⟩
    have e2 : ev (scrGS K) (fun _ => none) (lI 0) (view [] [.dk, .dat (.int m2'), sv]) ns = .ok (.int 0) ns := rfl
    rw [e2]
    intro v6 H6 k6 rv6 o6
    cases rv6.intAt
    have nbq : ¬ (scrGS K).bad (a, b) q' := fun z => by
      cases b with
      | true =>
        obtain ⟨_, rfl⟩ := z
        obtain ⟨o, e⟩ := o4.1 rfl
        rw [hq] at e; cases e
      | false => cases z.1
    have hp6 : H6 p = some (.dK []) := k6 p _ (k5 p _ hp4 nbp) nbp
    have hq6 : H6 q' = some (.lst (ns'.map V.int)) := k6 q' _ (k5 q' _ hq nbq) nbq
    refine ⟨hp6, [(.inr D.kl, V.ref q'), (.inr D.km, V.int m2'), (.inr D.kd, V.int 0)], rfl, Nat.le_of_ble_eq_true rfl, ?_⟩
    have nb : ∀ c, ¬ c = a → ¬ (scrGS K).bad (a, b) c := fun c n z => n z.2
    have kf : Kp (fun c => c = a) H (upd H6 p (.dK (mergeK [] [(.inr D.kl, V.ref q'), (.inr D.km, V.int m2'), (.inr D.kd, V.int 0)]))) := fun c o e n => by
      have e2 := sr2.kp c o e (nb c n)
      have hcp : c ≠ p := fun z => by rw [z, hp] at e2; cases e2
      rw [upd_ne hcp]
      exact k6 c o (k5 c o (k4 c o (by rw [upd_ne hcp]; exact e2) (nb c n)) (nb c n)) (nb c n)
    refine q (p, q') ⟨ns', m2', 0⟩ _ ⟨?_, ?_⟩ hl' kf
    · rw [merge3]
      exact upd_same
    · have hne : q' ≠ p := fun z => by rw [z, hp6] at hq6; cases hq6
      exact (upd_ne hne).trans hq6
  · cases hc
end
end Slim

set_option Elab.async false
set_option linter.all false
set_option maxRecDepth 100000
set_option maxHeartbeats 4000000
/-! SLIM 25: the run of a deck's making; the law's own def. -/
namespace Slim
open PySem PySem.Spec PyProof.Rows L2

/-- the constants of a deck -/
structure KC where
  c0 : Int
  a : Int
  m : Int
  b : Int
  p : Int
def KC.good (c : KC) : Prop := (0 ≤ c.a ∧ c.a < 2 ^ 62) ∧ 0 < c.m ∧ 0 < c.p
instance (c : KC) : Decidable c.good := by unfold KC.good; infer_instance
def deckM1 (c : KC) : Slim.S := .asg 1 (lI c.c0)
def deckStep (c : KC) : Slim.S := .cons (.asg 1 (.bin .mod (.blt .int (a1 (.bin .add (.bin .add (.bin .mul (.var 1) (lI c.a)) (.bin .mod (.blt .int (a1 (.var 2))) (lI c.m))) (lI c.b)))) (lI c.p))) .nil
def deckM2 (c : KC) : Slim.S := .for_ (.nm 2) (.cons (.scut 0 63) .nil) (deckStep c)
def deckXa : Slim.E := .rev (.comp [2] (.nm 2) (.cons (.scut 0 63) .nil) (.lit (.bool true)) (.blt .int (a1 (.var 2))))
def deckXb : Slim.E := .rev (.blt .list (a1 (.scut 0 63)))
variable {K : PySem.W.Frag}
theorem scr_cut (g : List Int) : (scrGS K).cut g = some g := rfl
theorem deck_r1 (c : KC) (T : Tab (scrGS K)) (n : Nat) (ns : List Int) : ∃ m' : Int, run T n (deckM1 c) [.dk, .un, .un] ns = .nx [.dk, .dat (.int m'), .un] ns := ⟨c.c0, by
  unfold deckM1
  simp only [Slim.run, Slim.Out.seq, Slim.evV, Slim.testV, Slim.ev, Slim.evs, Slim.Res.bind, Slim.Res.of, Slim.Res.out, Slim.lI, Slim.a1, Slim.a2, Slim.rds, Slim.view, Slim.viewAt, Slim.getD, List.append_nil, List.nil_append, List.cons_append, List.getElem?_cons_zero, List.getElem?_cons_succ, Slim.bop, Slim.add_i, Slim.blt, Slim.un, Slim.bi, Slim.intD, Option.map_some, Option.bind_some, Slim.tru, Slim.asgS, Slim.isNew, Slim.aft, Slim.noMut, List.set_cons_zero, List.set_cons_succ, Bool.false_eq_true, if_false, if_true, Slim.cop, Slim.ltI, Slim.max2D]⟩
theorem deck_go (c : KC) (hc : c.good) (T : Tab (scrGS K)) (n : Nat) (g : List Int) : ∀ (ns : List Int) (m : Int) (sv : SV), (sv = .un ∨ ∃ d, sv = .dat d) → ∃ (m'' : Int) (sv' : SV),
    forGo (fun d τ g => match bindT (.nm 2) d τ with
        | some τ' => run T n (deckStep c) τ' g
        | none => .no) (ns.map .int) [.dk, .dat (.int m), sv] g = .nx [.dk, .dat (.int m''), sv'] g ∧ (sv' = .un ∨ ∃ d, sv' = .dat d)
  | [], m, sv, h => ⟨m, sv, rfl, h⟩
  | i :: ns, m, sv, h => by
    obtain ⟨k1, k2, k3⟩ := hc
    have e : run T n (deckStep c) [.dk, .dat (.int m), .dat (.int i)] g = .nx [.dk, .dat (.int ((m * c.a + i % c.m + c.b) % c.p)), .dat (.int i)] g := by
      unfold deckStep
      simp only [Slim.run, Slim.Out.seq, Slim.evV, Slim.testV, Slim.ev, Slim.evs, Slim.Res.bind, Slim.Res.of, Slim.Res.out, Slim.lI, Slim.a1, Slim.a2, Slim.rds, Slim.view, Slim.viewAt, Slim.getD, List.append_nil, List.nil_append, List.cons_append, List.getElem?_cons_zero, List.getElem?_cons_succ, Slim.bop, Slim.add_i, Slim.blt, Slim.un, Slim.bi, Slim.intD, Option.map_some, Option.bind_some, Slim.tru, Slim.asgS, Slim.isNew, Slim.aft, Slim.noMut, List.set_cons_zero, List.set_cons_succ, Bool.false_eq_true, if_false, if_true, Slim.cop, Slim.ltI, Slim.max2D, mul_r k1, mod_p k2, mod_p k3]
    obtain ⟨m'', sv', h1, h2⟩ := deck_go c ⟨k1, k2, k3⟩ T n g ns ((m * c.a + i % c.m + c.b) % c.p) (.dat (.int i)) (.inr ⟨_, rfl⟩)
    refine ⟨m'', sv', ?_, h2⟩
    rw [← h1]
    simp only [List.map_cons, forGo, bindT, fitT, setT, if_true, List.set_cons_succ, List.set_cons_zero, e]
theorem deck_r2 (c : KC) (hc : c.good) (T : Tab (scrGS K)) (n : Nat) (ns : List Int) (m' : Int) (hl : ns.length ≤ 63) : ∃ (m'' : Int) (sv : SV), run T n (deckM2 c) [.dk, .dat (.int m'), .un] ns = .nx [.dk, .dat (.int m''), sv] ns ∧ (sv = .un ∨ ∃ d, sv = .dat d) := by
  obtain ⟨m'', sv, h1, h2⟩ := deck_go c hc T n ns (ns.take 63) m' .un (.inl rfl)
  refine ⟨m'', sv, ?_, h2⟩
  have hlt : ((ns.take 63).map PyData.int).length < lim := by rw [List.length_map, List.length_take]; unfold lim; omega
  unfold deckM2
  simp only [run, evi, ev, rds, List.append_nil, view, viewAt, List.getElem?_cons_zero, scr_cut, Option.map_some, Res.of, Res.bind, seqR, Res.out, hlt, if_true, frzI, frz, frzAt]
  exact h1

/-- a comprehension that keeps no state, item by item -/
theorem compGo_pure {S : GS} {f : Slim.D → S.G → Res S (Option Slim.D)} {g : S.G} {φ : Slim.D → Option Slim.D} : ∀ {ds : List Slim.D}, (∀ d ∈ ds, f d g = .ok (φ d) g) → compGo f ds g = .ok (ds.filterMap φ) g
  | [], _ => rfl
  | d :: ds, h => by
    have ih := compGo_pure (f := f) (g := g) (φ := φ) (ds := ds) fun e he => h e (List.mem_cons_of_mem _ he)
    simp only [compGo, h d (List.mem_cons_self ..), Res.bind, ih, List.filterMap_cons]
    cases φ d <;> rfl
theorem deck_r3a (T : Tab (scrGS K)) (ns : List Int) (m' : Int) (sv : SV) (hl : ns.length ≤ 63) (h : sv = .un ∨ ∃ d, sv = .dat d) : ∃ ns' : List Int, evV T deckXa [.dk, .dat (.int m'), sv] ns = .ok (.list (ns'.map .int)) ns ∧ ns'.length ≤ 63 := by
  refine ⟨(ns.take 63).reverse, ?_, by rw [List.length_reverse, List.length_take]; omega⟩
  have hlt : ((ns.take 63).map PyData.int).length < lim := by rw [List.length_map, List.length_take]; unfold lim; omega
  have e : view (rds deckXa) [.dk, .dat (.int m'), sv] = [.dk, .dat (.int m'), sv] := by
    rcases h with rfl | ⟨d, rfl⟩ <;> rfl
  unfold evV
  rw [e]
  unfold deckXa
  simp only [ev, evi, evs, a1, List.getElem?_cons_zero, scr_cut, Option.map_some, Res.of, Res.bind, seqR, hlt, if_true]
  have hg : ∀ i : Int, getD (([.dk, .dat (.int m'), sv] : Sl).set 2 .un |>.set 2 (.dat (.int i))) 2 = some (.int i) := fun i => rfl
  erw [compGo_pure (S := scrGS K) (φ := some)]
  · simp only [Res.quiet, List.map_reverse, List.filterMap_some]
  · intro d hd
    obtain ⟨i, _, rfl⟩ := List.mem_map.mp hd
    simp only [bindT, fitT, setT, wipeS, if_true, tru, hg, blt, un, intD]
theorem deck_r3b (T : Tab (scrGS K)) (ns : List Int) (m' : Int) (sv : SV) (hl : ns.length ≤ 63) (h : sv = .un ∨ ∃ d, sv = .dat d) : ∃ ns' : List Int, evV T deckXb [.dk, .dat (.int m'), sv] ns = .ok (.list (ns'.map .int)) ns ∧ ns'.length ≤ 63 := by
  refine ⟨(ns.take 63).reverse, ?_, by rw [List.length_reverse, List.length_take]; omega⟩
  have e : view (rds deckXb) [.dk, .dat (.int m'), sv] = [.dk, .dat (.int m'), sv] := by
    rcases h with rfl | ⟨d, rfl⟩ <;> rfl
  unfold evV
  rw [e]
  unfold deckXb
  simp only [ev, evs, a1, List.getElem?_cons_zero, scr_cut, Option.map_some, Res.of, Res.bind, blt, un, lstD, List.map_reverse]
end Slim

set_option Elab.async false
set_option linter.all false
set_option maxRecDepth 100000
set_option maxHeartbeats 4000000
/-! SLIM 26: the law's own def. -/
namespace Slim
open PySem PySem.Spec PyProof.Rows L2
def spTop (cs : Str → Option (Addr × Slim.D)) (K : PySem.W.Frag) : Sp := fun vs H Q _ => ∃ (a : Addr) (ns : List Int), vs = [.ref a] ∧ SqL K H a (ns.map V.int) ∧ ns.length ≤ 63 ∧ OnlyZ H ∧ (∀ xs, ¬ Rd H a (.tup xs)) ∧ (∀ x c d, cs x = some (c, d) → noMut d = true ∧ Rep (fun _ => False) H (.ref c) d) ∧ ∀ H', Q (.bl true) H'
def topB (N : List Str) (gc : Bool) (kws : Str → List (List Str × List Nat)) (sc : Scope) (m : Slim.S) : List Stmt → Bool
  | .Assign [.Name x _] (.Call (.Name fn _) [.Name y _] [] _) _ :: rest => decide (N[1]? = some x) && blkAsg sc x && decide (fn = "_law_deck") && glB sc fn && varB N sc 0 y && chks N gc kws sc m rest
  | _ => false
def top0 (N : List Str) : Sl := .un :: .dk :: List.replicate (N.length - 2) .un
section
variable {P : Program} {w : World} {K : PySem.W.Frag} {mg : Str → Option Value} {base : Heap} {CX : CXT} {kws : Str → List (List Str × List Nat)} {gc : Bool} {cls : Cls} {k : Nat} {D : DK} {T : Tab (deckGS D K)}
theorem start_deck {N : List Str} {i : Addr × Addr} {g : DG} {H : Hp} {v : V} (ok : (deckGS D K).ok i g H) (hN : 2 ≤ N.length) (zz : ∀ x a d, D.cs x = some (a, d) → Rep ((deckGS D K).bad i) H (.ref a) d) :
    SR (deckGS D K) i ((deckGS D K).bad i) H (fun _ _ => False) (fun _ => none) (top0 N) g ((L2.start N [v]).set 1 (some (.ref i.1))) H := by
  have get : ∀ j : Nat, (∃ d, (top0 N)[j]? = some (.dat d)) ∨ (∃ d, (top0 N)[j]? = some (.own d)) → False := fun j h => by
    have : ∀ sv, (top0 N)[j]? = some sv → sv = .un ∨ sv = .dk := fun sv h => by
      have hm := List.mem_of_getElem? h
      simp only [top0, List.mem_cons, List.mem_replicate] at hm
      rcases hm with h | h | h
      · exact .inl h
      · exact .inr h
      · exact .inl h.2
    rcases h with ⟨d, h⟩ | ⟨d, h⟩ <;> (rcases this _ h with z | z <;> cases z)
  refine ⟨ok, fun _ h => h, fun c hc => (deckGS D K).chg i g H c ok hc, Kp.refl, fun j p h => (nomatch h), fun j l p h => (nomatch h), fun j d h => (get j (.inl ⟨d, h⟩)).elim, fun j d h => (get j (.inr ⟨d, h⟩)).elim, fun j h => ?_, fun v d z => z.elim (fun z => z.elim) fun ⟨x, a, e, z⟩ => by rw [z]; exact (zz x a d e).less (fun c h => h.elim id fun ⟨_, h, _⟩ => nomatch h), ?_⟩
  · have hj : j = 1 := by
      match j, h with
      | 0, h => cases h
      | 1, _ => rfl
      | j + 2, h =>
        exfalso
        simp only [top0, List.getElem?_cons_succ] at h
        have hm := List.mem_of_getElem? h
        rw [List.mem_replicate] at hm
        cases hm.2
    subst hj
    rw [List.getElem?_set_self (by unfold L2.start; simp; omega)]
    try rfl
  · unfold top0 L2.start
    simp
    omega
theorem top_ok (W : Wor P w K mg base CX gc) (ht : TabOk P w K mg base CX (deckGS D K) cls kws k T) {fa : Addr} {fdd : FuncData} {nm : Str} (hk : 1 ≤ k) (hm : mg "_law_deck" = some (.ref fa)) (hkp : PySem.W.keepIn K (.ref fa) = true)
    (FD : FnG P w K mg base CX 1 fa fdd [nm] (spDeck D K)) (hb : Binds K fdd [nm] []) {x qual : Str} {st : Stmt} {f : Addr} {fd : FuncData} {N : List Str} (F : Fun K x qual st f fd) (Sc : FnScope N ["script"] (defScope st)) (n : Nat) (m : Slim.S)
    (hN : 2 ≤ N.length) (hc : topB N gc kws (defScope st) m (defBody st) = true) (hrun : ∀ g : DG, g.left.length ≤ 63 → ∃ g', run T n m (top0 N) g = .rt (.bool true) g') :
    FnG P w K mg base CX (k + 1) f fd ["script"] (spTop D.cs K) := by
  refine Fun.okG F Sc (fun vs H Q E z => by obtain ⟨a, ns, rfl, _⟩ := z; rfl) fun cdv A out s H vs Q E gd room z => ?_
  have G := ht.good rfl W Sc (qual := qual) (f := f) (cdv := cdv) (A := A) (out := out) (s := s) (H := H) (E := E) gd room
  obtain ⟨a, ns, rfl, hs, hl, ho, hna, hz, q⟩ := z
  generalize hbody : defBody st = body at hc
  unfold topB at hc
  split at hc
  · rename_i y py fn pf z pz pc pos rest
    simp only [Bool.and_eq_true, decide_eq_true_eq] at hc
    obtain ⟨⟨⟨⟨⟨c1, c2⟩, rfl⟩, c4⟩, c5⟩, c6⟩ := hc
    obtain ⟨l1, l2, l3, l4⟩ := loc_of G c1 c2
    obtain ⟨g1, g2⟩ := glB_of c4
    refine ⟨_, pss_cons (ps_set l1 l2 l3 (pe_callG (FD.mono hk) gd room (G.gl g1) hm hkp hb (W.pass N qual _ f cdv A out s H E) (pa_cons (G.var c5) pa_nil rfl) g2 rfl rfl) rfl l4) ((sndS_all n m).all G (passes_of rfl) _ c6), ?_⟩
    refine ⟨.ref a, rfl, a, ns, rfl, hs, hl, ho, fun i g H' ok hlen kf => ?_⟩
    obtain ⟨g', e⟩ := hrun g hlen
    have zz : ∀ x a d, D.cs x = some (a, d) → Rep ((deckGS D K).bad i) H' (.ref a) d := fun x c d e => by
      obtain ⟨nm, r⟩ := hz x c d e
      have r1 : Rep (fun c => c = a) H (.ref c) d := r.wide (fun p xs h z => hna xs (by rw [← z]; exact h)) nm
      have r2 : Rep (fun _ => False) H' (.ref c) d := (r1.keep kf).less fun _ z => z.elim
      exact r2.wide (fun p xs h z => by
        obtain ⟨o, h1, h2⟩ := (deckGS D K).chg i g H' p ok z
        exact h2.no h1 h) nm
    refine ⟨i, _, H', _, _, top0 N, g, start_deck ok hN zz, ?_⟩
    rw [e]
    intro v H2 k2 r2 o2
    cases r2.blAt
    exact q H2
  · cases hc
end
end Slim

set_option Elab.async false
set_option linter.all false
set_option maxRecDepth 100000
set_option maxHeartbeats 4000000
/-! SLIM 27: from the promise of the law's def to the row. -/
namespace Slim
open PySem PySem.Spec PyProof.Rows L2

/-- what is fixed in the modules: tuples of ints, where they stand -/
abbrev CL := List (Addr × Obj × List Int)
def hpC (cl : CL) : Hp := fun b => match cl.lookup b with
  | some (o, is) => some (.frz o (.tup (is.map V.int)))
  | none => none
structure ClOk (K : PySem.W.Frag) (h : Heap) (cs : Str → Option (Addr × Slim.D)) (cl : CL) : Prop where
  at_ : ∀ c o is, cl.lookup c = some (o, is) → h.get? c = some o ∧ o.cls = .type "tuple" ∧ (∃ its n, o.data = .seq its n ∧ Vals (is.map V.int) its.toList) ∧ is.length ≤ 1000 ∧ K.lookup c = none
  cs_ : ∀ x c d, cs x = some (c, d) → ∃ o is, cl.lookup c = some (o, is) ∧ d = .tuple (is.map PyData.int)

/-- the heap in which nothing stands but the script and what is fixed -/
def oneH (a : Addr) (vs : List Value) (ns : List Int) (cl : CL) : Hp := fun b => if b = a then some (.frz { cls := .type "list", data := .seq vs.toArray } (.lst (ns.map V.int))) else hpC cl b
theorem noMutAll_is : ∀ ns : List Int, noMutAll (ns.map PyData.int) = true
  | [] => rfl
  | n :: ns => by rw [List.map_cons, noMutAll, noMutAll_is ns]; rfl
section
variable {P : Program} {w : World} {K : PySem.W.Frag} {mg mb : Str → Option Value} {CX : CXT} {k : Nat} {fa a : Addr} {fd : FuncData} {x : Str} {st : Shared} {vs : List Value} {ns : List Int} {cs : Str → Option (Addr × Slim.D)} {cl : CL}

/-- what is wanted of the law's call -/
def LawEnd (st : Shared) : Result → Shared → Prop := fun r t => r = .ok (.ret (.bool true)) ∧ OldK st.heap t.heap ∧ t.os = st.os ∧ AllBare t.gens
theorem call_from (H : Hp) (hin : K.In (hidT st.heap H)) (hmg : (hidT st.heap H).Ns mainGlobals mg) (hmb : (hidT st.heap H).Ns builtinsNs mb) (hbb : ∀ y : Str, y ≠ "__name__" → mb y = bootBuiltins y) (hnl : (hidT st.heap H).NoLimit) (hgn : st.gens = #[])
    (hr : Room k callerA) (F : FnG P w K mg (hidT st.heap H) CX k fa fd [x] (spTop cs K)) (hbind : ∀ (s : Shared) (u : Value), BindsTo s fd ⟨[u], []⟩ [(x, u)]) (hCX : ∀ e t, CX [] H st (fun _ _ _ => False) e t → False)
    (ok : HOk P w H st.heap) (only : OnlyZ H) (sq : SqL K H a (ns.map V.int)) (hl : ns.length ≤ 63) (hna : ∀ xs, ¬ Rd H a (.tup xs)) (hz : ∀ x c d, cs x = some (c, d) → noMut d = true ∧ Rep (fun _ => False) H (.ref c) d) : codeAny (model P w) callerA (.call (.ref fa) ⟨[.ref a], []⟩) (LawEnd st) st := by
  have e0 : Env0 P w K mg (hidT st.heap H) callerA [] st H :=
    { frames := rfl, mod := ⟨hin, hmg, ⟨mb, hmb, hbb⟩, hnl⟩, bs := fun _ _ e => of_hidT e, bsz := Nat.le_of_eq (hidT_size _ _), funs := trivial, frf := fun b hb => (List.not_mem_nil hb).elim, hok := ok, bare := .of_eq hgn }
  have sp : spTop cs K [.ref a] H (fun v _ => v = .bl true) (fun _ _ _ => False) := ⟨a, ns, rfl, sq, hl, only, hna, hz, fun _ => rfl⟩
  refine codeAny_mono (F.run callerA [] st H ⟨[.ref a], []⟩ [.ref a] [.ref a] _ _ rfl hr e0 (hbind st (.ref a)) (.cons rfl .nil) sp) ?_
  intro r t h
  match r, h with
  | .error e, h => exact (hCX e t h).elim
  | .ok .next, h => exact h.elim
  | .ok .brk, h => exact h.elim
  | .ok .cont, h => exact h.elim
  | .ok (.ret u), h =>
    obtain ⟨v, H2, h_os, h_bare, un, ok2, rel, rfl⟩ := h
    cases (show u = Value.bool true from rel)
    refine ⟨rfl, OldK.of_keep fun b o e => ?_, h_os, h_bare⟩
    rcases only b with z | ⟨ob, xs, z⟩
    · exact un.keep b o e z (fun z => (List.not_mem_nil z).elim) (fun z => (List.not_mem_nil z).elim)
    · obtain ⟨e1, _⟩ := ok b _ z
      obtain ⟨e2, _⟩ := ok2 b _ (un.frzs b ob _ z)
      rw [e] at e1
      cases e1
      exact e2
theorem call_law (hin : K.In st.heap) (hmg : st.heap.Ns mainGlobals mg) (hmb : st.heap.Ns builtinsNs mb) (hbb : ∀ y : Str, y ≠ "__name__" → mb y = bootBuiltins y) (hnl : st.heap.NoLimit) (hgn : st.gens = #[])
    (ho : st.heap.get? a = some { cls := .type "list", data := .seq vs.toArray }) (hi : IntsAre vs ns) (hl : ns.length ≤ 63) (hr : Room k callerA) (F : ∀ base : Heap, K.In base → base.Ns mainGlobals mg → FnG P w K mg base CX k fa fd [x] (spTop cs K))
    (hbind : ∀ (s : Shared) (u : Value), BindsTo s fd ⟨[u], []⟩ [(x, u)]) (hCX : ∀ H e t, CX [] H st (fun _ _ _ => False) e t → False) (cok : ClOk K st.heap cs cl) : codeAny (model P w) callerA (.call (.ref fa) ⟨[.ref a], []⟩) (LawEnd st) st := by
  have rv := vals_ints hi
  have hlen := hi.length
  -- what is fixed is not the script
  have ca : cl.lookup a = none := by
    cases e : cl.lookup a with
    | none => rfl
    | some p =>
      obtain ⟨o, is⟩ := p
      obtain ⟨h1, h2, _⟩ := cok.at_ a o is e
      rw [ho] at h1
      cases h1
      exact absurd h2 (fun z => by injection z with z; exact absurd z (by decide))
  have hCa : hpC cl a = none := by unfold hpC; rw [ca]
  have hC : ∀ b u, hpC cl b = some u → ∃ o is, cl.lookup b = some (o, is) ∧ u = .frz o (.tup (is.map V.int)) := fun b u e => by
    unfold hpC at e
    cases e2 : cl.lookup b with
    | none => rw [e2] at e; cases e
    | some p => rw [e2] at e; cases e; exact ⟨p.1, p.2, rfl, rfl⟩
  have okC : ∀ (H : Hp) b u, hpC cl b = some u → ObjOk P w H st.heap b u := fun H b u e => by
    obtain ⟨o, is, e1, rfl⟩ := hC b u e
    obtain ⟨h1, h2, ⟨its, n, h3, h4⟩, h5, _⟩ := cok.at_ b o is e1
    refine ⟨h1, ?_, its.toList, h4, o, h1, h2, n, by simpa using h3⟩
    rw [List.length_map, sizeLine_eq]
    omega
  -- an H that hides at most the script and what is fixed
  have go : ∀ H : Hp, (∀ b, H b ≠ none → K.lookup b = none ∧ ∃ o its n, st.heap.get? b = some o ∧ o.data = .seq its n) → HOk P w H st.heap → OnlyZ H → SqL K H a (ns.map V.int) → (∀ xs, ¬ Rd H a (.tup xs)) → (∀ b, b ≠ a → H b = hpC cl b) → codeAny (model P w) callerA (.call (.ref fa) ⟨[.ref a], []⟩) (LawEnd st) st := by
    intro H hh ok only sq hna hHC
    have dictNone : ∀ (b : Addr) (o : Obj) (es : Array DictEntry) (ep : Nat), st.heap.get? b = some o → o.data = .dict es ep → H b = none := by
      intro b o es ep e d
      by_cases z : H b = none
      · exact z
      · obtain ⟨_, o', its, n, z2, z3⟩ := hh b z
        rw [e] at z2
        cases z2
        rw [d] at z3
        cases z3
    have ns_of : ∀ {b : Addr} {m : Str → Option Value}, st.heap.Ns b m → (hidT st.heap H).Ns b m := by
      rintro b m ⟨o, es, ep, e, d, rest⟩
      exact ⟨o, es, ep, hidT_get e (dictNone b o es ep e d), d, rest⟩
    have kin : K.In (hidT st.heap H) := fun b o e => by
      refine hidT_get (hin b o e) ?_
      by_cases z : H b = none
      · exact z
      · obtain ⟨z2, _⟩ := hh b z
        rw [z2] at e
        cases e
    obtain ⟨mc, n1, n2⟩ := hnl
    refine call_from H kin (ns_of hmg) (ns_of hmb) hbb ⟨mc, ns_of n1, n2⟩ hgn hr (F _ kin (ns_of hmg)) hbind (hCX H) ok only sq hl hna fun y c d e => ?_
    obtain ⟨o, is, e1, rfl⟩ := cok.cs_ y c d e
    have hca : c ≠ a := fun z => by rw [z, ca] at e1; cases e1
    refine ⟨by rw [noMut]; exact noMutAll_is is, .tup (fun z => z) (.inr ⟨o, ?_⟩) (RepAll.of_ints is)⟩
    rw [hHC c hca]
    unfold hpC
    rw [e1]
  have seqA : ∃ o its n, st.heap.get? a = some o ∧ o.data = .seq its n := ⟨_, vs.toArray, 0, ho, rfl⟩
  have seqC : ∀ b, hpC cl b ≠ none → K.lookup b = none ∧ ∃ o its n, st.heap.get? b = some o ∧ o.data = .seq its n := fun b z => by
    cases e : hpC cl b with
    | none => exact absurd e z
    | some u =>
      obtain ⟨o, is, e1, _⟩ := hC b u e
      obtain ⟨h1, h2, ⟨its, n, h3, h4⟩, h5, h6⟩ := cok.at_ b o is e1
      exact ⟨h6, o, its, n, h1, h3⟩
  have onlyC : ∀ b, hpC cl b = none ∨ ∃ ob xs, hpC cl b = some (.frz ob xs) := fun b => by
    cases e : hpC cl b with
    | none => exact .inl rfl
    | some u =>
      obtain ⟨o, is, _, rfl⟩ := hC b u e
      exact .inr ⟨_, _, rfl⟩
  cases hk : K.lookup a with
  | none =>
    have at_a : oneH a vs ns cl a = some (.frz { cls := .type "list", data := .seq vs.toArray } (.lst (ns.map V.int))) := if_pos rfl
    have off : ∀ b, b ≠ a → oneH a vs ns cl b = hpC cl b := fun b h => if_neg h
    refine go (oneH a vs ns cl) (fun b z => ?_) (fun b u e => ?_) (fun b => ?_) (.inl (.inr ⟨_, at_a⟩)) (fun xs z => ?_) off
    · by_cases hb : b = a
      · subst hb; exact ⟨hk, seqA⟩
      · rw [off b hb] at z
        exact seqC b z
    · by_cases hb : b = a
      · subst hb
        rw [at_a] at e
        cases e
        refine ⟨ho, ?_, vs, 0, rv, ho⟩
        rw [List.length_map, sizeLine_eq]
        omega
      · rw [off b hb] at e
        exact okC _ b u e
    · by_cases hb : b = a
      · subst hb; exact .inr ⟨_, _, at_a⟩
      · rw [off b hb]; exact onlyC b
    · rcases z with z | ⟨o, z⟩ <;> (rw [at_a] at z; cases z)
  | some o =>
    have e := hin a o hk
    rw [ho] at e
    cases e
    refine go (hpC cl) seqC (fun b u e => okC _ b u e) onlyC (.inr ⟨_, vs.toArray, 0, hk, rfl, rfl, rfl, ?_, ?_⟩) (fun xs z => rd_not hCa z) fun _ _ => rfl
    · rw [List.size_toArray, hlen, sizeLine_eq]
      omega
    · simpa using rv
end

/-- THE ROW, from the promise of the law's def -/
theorem walkG {l : PySem.W.OpenLaw} {k : Nat} {q : Program} {loose : List Str} {XP : (Str → Option Value) → Heap → Prop} {YP : World → Heap → Prop} {d : DefRec} {K : Params → PySem.W.Frag} {CX : World → CXT}
    (hn : l.most = some 63) (hdf : d.params.defaults = []) (hr : Room k callerA) (hY : ∀ (w : World) (h : Heap), YP w h → (K w.params).In h)
    (F : ∀ (w : World) (mg : Str → Option Value) (fa : Addr) (h : Heap), (K w.params).In h → h.Ns mainGlobals mg → mg d.name = some (.ref fa) →
      ∃ (K' : PySem.W.Frag) (cs : Str → Option (Addr × Slim.D)) (cl : CL) (fd : FuncData), K'.In h ∧ ClOk K' h cs cl ∧ (∀ (s : Shared) (u : Value), BindsTo s fd ⟨[u], []⟩ [("script", u)]) ∧ ∀ base : Heap, K'.In base → base.Ns mainGlobals mg → FnG l.prog w K' mg base (CX w) k fa fd ["script"] (spTop cs K'))
    (hCX : ∀ (w : World) (H : Hp) (s : Shared) (e : Value) (s' : Shared), CX w [] H s (fun _ _ _ => False) e s' → False) : PySem.W.WalkO q loose XP YP l.row.toRowW d [] (fun f vs => PySem.call f vs) := by
  refine Att.attach_call hn hdf ?_
  intro w s₀ st mg mb fa o pm cd doc a vs ns G Y _ _ _ hmg hobj hints hlen hgn
  have kin := hY w _ Y
  obtain ⟨K', cs, cl, fd, kin', cok, hb, hF⟩ := F w mg fa _ kin G.T.g hmg
  exact call_law kin' G.T.g G.T.b G.T.builtins G.T.nolimit hgn hobj hints hlen hr hF hb (fun H e t => hCX w H st e t) cok
/-! a heap's picture without one address -/
def cutK (K : PySem.W.Frag) (c : Addr) : PySem.W.Frag := K.filter fun p => !(p.1 == c)
theorem cutK_ne {c b : Addr} (h : b ≠ c) : ∀ K : PySem.W.Frag, (cutK K c).lookup b = K.lookup b
  | [] => rfl
  | (a, o) :: K => by
    have ih := cutK_ne h K
    unfold cutK at ih ⊢
    by_cases e : a = c
    · subst e
      have e1 : (b == a) = false := by simpa using h
      rw [List.filter_cons_of_neg (by simp), ih, List.lookup_cons, e1]
    · rw [List.filter_cons_of_pos (by simpa using e), List.lookup_cons, List.lookup_cons, ih]
theorem cutK_eq {c : Addr} : ∀ K : PySem.W.Frag, (cutK K c).lookup c = none
  | [] => rfl
  | (a, o) :: K => by
    have ih := cutK_eq (c := c) K
    unfold cutK at ih ⊢
    by_cases e : a = c
    · rw [List.filter_cons_of_neg (by simp [e]), ih]
    · have e1 : (c == a) = false := by simpa using Ne.symm e
      rw [List.filter_cons_of_pos (by simpa using e), List.lookup_cons, ih, e1]
theorem cutK_in {K : PySem.W.Frag} {c : Addr} {h : Heap} (X : K.In h) : (cutK K c).In h := fun b o e => by
  by_cases z : b = c
  · rw [z, cutK_eq] at e; cases e
  · rw [cutK_ne z] at e; exact X b o e
end Slim

set_option Elab.async false
set_option linter.all false
set_option maxRecDepth 100000
set_option maxHeartbeats 4000000
/-! SLIM 28: the defs of the top, one after another. -/
namespace Slim
open PySem PySem.Spec PyProof.Rows L2

/-- what the top has written of a def -/
structure At (K : PySem.W.Frag) (x : Str) (st : Stmt) : Prop where
  ex : ∃ (f : Addr) (oc : Value) (od an : Option Addr) (osl : Array (Option Value)) (kV doc pm cdv ct : Value), PySem.W.nsIn K mainGlobals x = some (some (.ref f)) ∧
    K.lookup f = some ⟨oc, od, .func (PySem.W.fnOf x x (defArgs st) (defBody st) (defScope st) .none kV doc pm an cdv ct), osl⟩ ∧ PySem.W.codeIn K cdv x = true ∧ PySem.W.keepIn K (.ref f) = true
theorem at_mk {K : PySem.W.Frag} {x : Str} {st : Stmt} {f : Addr} {oc : Value} {od an : Option Addr} {osl : Array (Option Value)} {kV doc pm cdv ct : Value} (a : PySem.W.nsIn K mainGlobals x = some (some (.ref f)))
    (l : K.lookup f = some ⟨oc, od, .func (PySem.W.fnOf x x (defArgs st) (defBody st) (defScope st) .none kV doc pm an cdv ct), osl⟩) (c : PySem.W.codeIn K cdv x = true) (k : PySem.W.keepIn K (.ref f) = true) : At K x st := ⟨f, oc, od, an, osl, kV, doc, pm, cdv, ct, a, l, c, k⟩

/-- how a def's parameters are bound -/
structure Bnd (x : Str) (st : Stmt) (ps : List Str) (kw : List (List Str × List Nat)) (n : Nat) : Prop where
  pos : ∀ (kV doc pm : Value) (an : Option Addr) (cdv ct : Value) (us : List Value), us.length = ps.length → bindArgs (PySem.W.fnOf x x (defArgs st) (defBody st) (defScope st) .none kV doc pm an cdv ct) ⟨us, []⟩ = pure (ps.zip us)
  key : ∀ ks perm, (ks, perm) ∈ kw → ks.length = n ∧ perm.length = n ∧ ∀ (kV doc pm : Value) (an : Option Addr) (cdv ct : Value) (ws : List Value), ws.length = ks.length →
    bindArgs (PySem.W.fnOf x x (defArgs st) (defBody st) (defScope st) .none kV doc pm an cdv ct) ⟨[], ks.zip ws⟩ = pure (ps.zip (perm.map fun i => ws.getD i .none))
def addT {S : GS} (x : Str) (FS : FSpec S) (T : Tab S) : Tab S := fun y => if y = x then some FS else T y
section
variable {P : Program} {w : World} {K : PySem.W.Frag} {mg : Str → Option Value} {base h : Heap} {CX : CXT} {S : GS} {cls : Cls} {T : Tab S} {kws : Str → List (List Str × List Nat)} {gc : Bool} {k : Nat}
theorem TabOk.mono (ht : TabOk P w K mg base CX S cls kws k T) {j : Nat} (hj : k ≤ j) : TabOk P w K mg base CX S cls kws j T := ⟨ht.1, fun f F e => by
  obtain ⟨a, fd, ps, h1, h2, h3, h4, h5, h6⟩ := ht.2 f F e
  exact ⟨a, fd, ps, h1, h2, h3, h4.mono hj, h5, h6⟩⟩
theorem tab_nil (hC : ∀ x a d, S.cs x = some (a, d) → mg x = some (.ref a)) : TabOk P w K mg base CX S cls kws k (fun _ => none) := ⟨hC, fun _ _ e => nomatch e⟩
theorem At.fn {x : Str} {st : Stmt} (A : At K x st) (X : K.In h) (G : h.Ns mainGlobals mg) : ∃ f fd, Fun K x x st f fd ∧ mg x = some (.ref f) ∧ PySem.W.keepIn K (.ref f) = true ∧
    ∃ (kV doc pm : Value) (an : Option Addr) (cdv ct : Value), fd = PySem.W.fnOf x x (defArgs st) (defBody st) (defScope st) .none kV doc pm an cdv ct := by
  obtain ⟨f, oc, od, an, osl, kV, doc, pm, cdv, ct, a, l, c, kp⟩ := A.ex
  exact ⟨f, _, fun_mk l c kp, PySem.W.mg_of X G a, kp, kV, doc, pm, an, cdv, ct, rfl⟩

/-- a table with a def more -/
theorem tab_add (hK : K = S.K) (W : Wor P w K mg base CX gc) (X : K.In h) (G : h.Ns mainGlobals mg) (ht : TabOk P w K mg base CX S cls kws k T) {x : Str} {st : Stmt} (A : At K x st) {N ps : List Str} (Sc : FnScope N ps (defScope st)) (FS : FSpec S) (n : Nat) (m : Slim.S)
    (hn : ps.length = psLen FS) (B : Bnd x st ps (kws x) FS.n) (hc : chks N gc kws (defScope st) m (defBody st) = true) (hr : ∀ ds g, ds.length = FS.n → FS.f ds g = .no ∨ runF T FS.dk N.length n m ds g = FS.f ds g) :
    TabOk P w K mg base CX S cls kws (k + 1) (addT x FS T) := by
  refine ⟨ht.1, fun y F e => ?_⟩
  unfold addT at e
  split at e
  · rename_i hy
    subst hy
    cases e
    obtain ⟨f, fd, hF, h1, h2, kV, doc, pm, an, cdv, ct, rfl⟩ := A.fn X G
    refine ⟨f, _, ps, h1, h2, hn, fn_slim hK W ht hF Sc FS n m hn hc hr, .all (B.pos kV doc pm an cdv ct), fun ks perm hk => ?_⟩
    obtain ⟨b1, b2, b3⟩ := B.key ks perm hk
    exact ⟨b1, b2, fun s ws _ hl => .of_eq (b3 kV doc pm an cdv ct ws hl)⟩
  · exact (ht.mono (Nat.le_succ k)).2 y F e

/-- a scope by a look -/
def scopeB (N ps : List Str) (sc : Scope) : Bool := (match sc.kind with
  | .function => true
  | _ => false) && !sc.isCoroutine && !sc.isGenerator && decide N.Nodup && decide (N.take ps.length = ps) && ps.all (fun x => decide (sc.names.lookup x = some .local) || decide (sc.names.lookup x = some .cell)) && sc.names.all (fun y => match y.2 with
  | .free => false
  | _ => true)
theorem scope_by {N ps : List Str} {sc : Scope} (h : scopeB N ps sc = true) : FnScope N ps sc := by
  unfold scopeB at h
  simp only [Bool.and_eq_true, Bool.not_eq_true', decide_eq_true_eq, List.all_eq_true, Bool.or_eq_true] at h
  obtain ⟨⟨⟨⟨⟨⟨h1, h2⟩, h3⟩, h4⟩, h5⟩, h6⟩, h7⟩ := h
  refine ⟨?_, h2, h3, h4, h5, h6, fun y hy z => ?_⟩
  · cases e : sc.kind <;> rw [e] at h1 <;> first | rfl | cases h1
  · have := h7 y hy
    rw [z] at this
    cases this
end
/-! without a constant's place -/
section
variable {K : PySem.W.Frag} {c : Addr} {oc : Obj} {its : Array Value} {n : Nat} (hl : K.lookup c = some oc) (hd : oc.data = .seq its n)
include hl hd
theorem ns_cut {x : Str} {v : Option Value} (e : PySem.W.nsIn K mainGlobals x = some v) : PySem.W.nsIn (cutK K c) mainGlobals x = some v := by
  have hne : mainGlobals ≠ c := fun z => by
    obtain ⟨c1, c2, c3, c4⟩ := oc
    simp only at hd
    subst hd
    unfold PySem.W.nsIn at e
    rw [z, hl] at e
    cases e
  unfold PySem.W.nsIn at e ⊢
  rw [cutK_ne hne]
  exact e
theorem lk_cut {b : Addr} {o : Obj} (e : K.lookup b = some o) (h : ∀ its n, o.data ≠ .seq its n) : (cutK K c).lookup b = some o := by
  have hne : b ≠ c := fun z => by
    rw [z, hl] at e
    cases e
    exact h _ _ hd
  rw [cutK_ne hne]
  exact e
theorem At.cut {x : Str} {st : Stmt} (A : At K x st) : At (cutK K c) x st := by
  obtain ⟨f, oc', od, an, osl, kV, doc, pm, cdv, ct, a, l, cd, kp⟩ := A.ex
  have l2 := lk_cut hl hd l (fun _ _ z => nomatch z)
  refine ⟨f, oc', od, an, osl, kV, doc, pm, cdv, ct, ns_cut hl hd a, l2, ?_, ?_⟩
  · cases cdv with
    | ref r =>
      have hne : r ≠ c := fun z => by
        obtain ⟨c1, c2, c3, c4⟩ := oc
        simp only at hd
        subst hd
        unfold PySem.W.codeIn at cd
        simp only [z, hl, Bool.false_eq_true] at cd
      unfold PySem.W.codeIn at cd ⊢
      simp only [cutK_ne hne] at cd ⊢
      exact cd
    | _ => unfold PySem.W.codeIn at cd; simp only [Bool.false_eq_true] at cd
  · unfold PySem.W.keepIn
    simp only [l2]
end

/-- a constant of a module, as the top has written it -/
theorem cst_mk {K : PySem.W.Frag} {x : Str} {c : Addr} {od : Option Addr} {its : Array Value} {n : Nat} {sl : Array (Option Value)} {is : List Int} (a : PySem.W.nsIn K mainGlobals x = some (some (.ref c))) (l : K.lookup c = some ⟨.type "tuple", od, .seq its n, sl⟩) (v : Vals (is.map V.int) its.toList) :
    ∃ c oc, PySem.W.nsIn K mainGlobals x = some (some (.ref c)) ∧ K.lookup c = some oc ∧ oc.cls = .type "tuple" ∧ ∃ its n, oc.data = .seq its n ∧ Vals (is.map V.int) its.toList := ⟨c, _, a, l, rfl, its, n, rfl, v⟩
end Slim

set_option Elab.async false
set_option linter.all false
set_option maxRecDepth 100000
set_option maxHeartbeats 4000000
/-! SLIM 29: what can be shown. -/
namespace Slim
open PySem PySem.Spec PyProof.Rows L2
structure Sh (k n : Nat) (d : D) : Prop where
  s : d.showable = true
  h : d.hasDict = false
  dp : d.depth ≤ k
  l : d.shown.length ≤ n
theorem Sh.mono {k n k' n' : Nat} {d : Slim.D} (h : Sh k n d) (h1 : k ≤ k') (h2 : n ≤ n') : Sh k' n' d := ⟨h.s, h.h, Nat.le_trans h.dp h1, Nat.le_trans h.l h2⟩
theorem Sh.ok {k n : Nat} {d : Slim.D} (h : Sh k n d) (h1 : k ≤ 60) (h2 : n ≤ 1000000) : showOk d = true := by
  unfold showOk
  rw [h.s, h.h, decide_eq_true (Nat.le_trans h.dp h1), decide_eq_true (Nat.le_trans h.l h2)]
  rfl
theorem p12 : 10 ^ 12 ≤ 2 ^ 1920 := by
  refine Nat.le_trans (show 10 ^ 12 ≤ 2 ^ 40 by decide) (Nat.pow_le_pow_right (by decide) (by decide))
theorem p570 : 10 ^ 570 ≤ 2 ^ 1920 := by
  have e : 10 ^ 570 = (10 ^ 3) ^ 190 := (Nat.pow_mul 10 3 190)
  have e2 : 2 ^ 1900 = (2 ^ 10) ^ 190 := (Nat.pow_mul 2 10 190)
  rw [e]
  refine Nat.le_trans (Nat.pow_le_pow_left (show 10 ^ 3 ≤ 2 ^ 10 by decide) 190) ?_
  rw [← e2]
  exact Nat.pow_le_pow_right (by decide) (by decide)
theorem sh_int {i : Int} (h : i.natAbs < 10 ^ 12) : Sh 0 13 (.int i) where
  s := by
    rw [PyData.showable]
    refine decide_eq_true ?_
    by_cases z : i.natAbs = 0
    · rw [z]; decide
    · have h2 : i.natAbs < 2 ^ 1920 := Nat.lt_of_lt_of_le h p12
      exact (Nat.log2_lt z).mpr h2
  h := by rw [PyData.hasDict]
  dp := by rw [PyData.depth]; exact Nat.le_refl _
  l := PyData.shown_int_le h
theorem sh_big {i : Int} (h : i.natAbs < 10 ^ 570) : Sh 0 571 (.int i) where
  s := by
    rw [PyData.showable]
    refine decide_eq_true ?_
    by_cases z : i.natAbs = 0
    · rw [z]; decide
    · have h2 : i.natAbs < 2 ^ 1920 := Nat.lt_of_lt_of_le h p570
      exact (Nat.log2_lt z).mpr h2
  h := by rw [PyData.hasDict]
  dp := by rw [PyData.depth]; exact Nat.le_refl _
  l := by
    have e := PySem.int_text_length_le10 (k := 570) (by decide) h
    show (Str.ofString (toString i)).length ≤ 571
    rw [PySem.ofString_length]; exact e
theorem sh_none : Sh 0 13 .none := ⟨by rw [PyData.showable], by rw [PyData.hasDict], by rw [PyData.depth]; exact Nat.zero_le _, by rw [PyData.shown_none]; decide⟩
theorem sh_bool (b : Bool) : Sh 0 13 (.bool b) := ⟨by rw [PyData.showable], by rw [PyData.hasDict], by rw [PyData.depth]; exact Nat.zero_le _, by rw [PyData.shown_bool]; cases b <;> decide⟩
theorem sh_all {k n : Nat} : ∀ {ds : List Slim.D}, (∀ d ∈ ds, Sh k n d) → PyData.showableAll ds = true ∧ PyData.hasDictAll ds = false ∧ PyData.depthAll ds ≤ k ∧ ((PyData.shownAll ds).map (·.length)).sum ≤ ds.length * n
  | [], _ => ⟨by rw [PyData.showableAll], by rw [PyData.hasDictAll], by rw [PyData.depthAll]; exact Nat.zero_le _, by rw [PyData.shownAll]; simp⟩
  | d :: ds, h => by
    obtain ⟨a, b, c, e⟩ := sh_all (ds := ds) fun x hx => h x (List.mem_cons_of_mem _ hx)
    have hd := h d (List.mem_cons_self ..)
    refine ⟨by rw [PyData.showableAll, hd.s, a]; rfl, by rw [PyData.hasDictAll, hd.h, b]; rfl, by rw [PyData.depthAll]; exact Nat.max_le.mpr ⟨hd.dp, c⟩, ?_⟩
    rw [PyData.shownAll, List.map_cons, List.sum_cons, List.length_cons, Nat.succ_mul]
    have := hd.l
    omega
theorem sh_tuple {k n : Nat} {ds : List Slim.D} (h : ∀ d ∈ ds, Sh k n d) : Sh (k + 1) (ds.length * (n + 2) + 3) (.tuple ds) := by
  obtain ⟨a, b, c, e⟩ := sh_all h
  refine ⟨by rw [PyData.showable]; exact a, by rw [PyData.hasDict]; exact b, by rw [PyData.depth]; omega, ?_⟩
  have h1 := tupleText_len_le (PyData.shownAll ds)
  have h2 : (PyData.tuple ds).shown = tupleText (PyData.shownAll ds) := by rw [PyData.shown]
  rw [h2]
  rw [PyData.shownAll_length] at h1
  have : ds.length * (n + 2) = ds.length * n + 2 * ds.length := by rw [Nat.mul_add, Nat.mul_comm _ 2]
  omega
theorem sh_list {k n : Nat} {ds : List Slim.D} (h : ∀ d ∈ ds, Sh k n d) : Sh (k + 1) (ds.length * (n + 2) + 3) (.list ds) := by
  obtain ⟨a, b, c, e⟩ := sh_all h
  refine ⟨by rw [PyData.showable]; exact a, by rw [PyData.hasDict]; exact b, by rw [PyData.depth]; omega, ?_⟩
  have h1 := listText_len_le (PyData.shownAll ds)
  have h2 : (PyData.list ds).shown = listText (PyData.shownAll ds) := by rw [PyData.shown]
  rw [h2]
  rw [PyData.shownAll_length] at h1
  have : ds.length * (n + 2) = ds.length * n + 2 * ds.length := by rw [Nat.mul_add, Nat.mul_comm _ 2]
  omega
end Slim

set_option Elab.async false
set_option linter.all false
set_option maxRecDepth 100000
set_option maxHeartbeats 4000000
namespace Law
open PySem PySem.Spec PyProof.Rows L2 Slim

def n_is_whole : List Str := ["thing"]
def t_is_whole : Slim.S := (.cons (.ret (.and (.cons (.isa .int (.var 0)) (.cons (.not (.isa .bool (.var 0))) .nil)))) .nil)
def n_is_from_one : List Str := ["thing"]
def t_is_from_one : Slim.S := (.cons (.ret (.and (.cons (.call "is_whole" none (.cons (.var 0) .nil)) (.cons (.cmp .ge (.var 0) (.lit (.int 1))) .nil)))) .nil)
def n_is_position : List Str := ["thing", "many"]
def t_is_position : Slim.S := (.cons (.ret (.and (.cons (.call "is_whole" none (.cons (.var 0) .nil)) (.cons (.chn .le .lt (.lit (.int 0)) (.var 0) (.var 1)) .nil)))) .nil)
def n_do_not_descend : List Str := ["moments"]
def t_do_not_descend : Slim.S := (.cons (.ret (.cmp .eq (.var 0) (.blt .sorted (.cons (.var 0) .nil)))) .nil)
def n_fraction : List Str := ["top", "bottom", "common"]
def t_fraction : Slim.S := (.cons (.asg 2 (.blt .gcd (.cons (.var 0) (.cons (.var 1) .nil)))) (.cons (.ret (.tup (.cons (.bin .fdiv (.var 0) (.var 2)) (.cons (.bin .fdiv (.var 1) (.var 2)) .nil)))) .nil))
def n_is_weights : List Str := ["thing", "weight"]
def t_is_weights : Slim.S := (.cons (.ife (.or (.cons (.not (.isa .tuple (.var 0))) (.cons (.cmp .eq (.blt .len (.cons (.var 0) .nil)) (.lit (.int 0))) .nil))) (.cons (.ret (.lit (.bool false))) .nil) .nil) (.cons (.ret (.blt .all (.cons (.comp [1] (.nm 1) (.cons (.var 0) .nil) (.lit (.bool true)) (.call "is_from_one" none (.cons (.var 1) .nil))) .nil))) .nil))
def n_is_flow : List Str := ["weights", "thing"]
def t_is_flow : Slim.S := (.cons (.ret (.call "is_position" none (.cons (.var 1) (.cons (.blt .len (.cons (.var 0) .nil)) .nil)))) .nil)
def n_is_flow_of_some : List Str := ["thing"]
def t_is_flow_of_some : Slim.S := (.cons (.ret (.and (.cons (.call "is_whole" none (.cons (.var 0) .nil)) (.cons (.cmp .ge (.var 0) (.lit (.int 0))) .nil)))) .nil)
def n_is_packet_of_some : List Str := ["thing", "moment", "flow", "length"]
def t_is_packet_of_some : Slim.S := (.cons (.ife (.or (.cons (.not (.isa .tuple (.var 0))) (.cons (.cmp .ne (.blt .len (.cons (.var 0) .nil)) (.lit (.int 3))) .nil))) (.cons (.ret (.lit (.bool false))) .nil) .nil) (.cons (.asgt (.tp (.cons (.nm 1) (.cons (.nm 2) (.cons (.nm 3) .nil)))) (.var 0)) (.cons (.ret (.and (.cons (.call "is_whole" none (.cons (.var 1) .nil)) (.cons (.cmp .ge (.var 1) (.lit (.int 0))) (.cons (.call "is_flow_of_some" none (.cons (.var 2) .nil)) (.cons (.call "is_from_one" none (.cons (.var 3) .nil)) .nil)))))) .nil)))
def n_is_arrivals_for_some : List Str := ["thing", "moment", "_", "packet"]
def t_is_arrivals_for_some : Slim.S := (.cons (.ife (.or (.cons (.not (.isa .tuple (.var 0))) (.cons (.not (.blt .all (.cons (.comp [3] (.nm 3) (.cons (.var 0) .nil) (.lit (.bool true)) (.call "is_packet_of_some" none (.cons (.var 3) .nil))) .nil))) .nil))) (.cons (.ret (.lit (.bool false))) .nil) .nil) (.cons (.ret (.call "do_not_descend" none (.cons (.comp [1, 2, 2] (.tp (.cons (.nm 1) (.cons (.nm 2) (.cons (.nm 2) .nil)))) (.cons (.var 0) .nil) (.lit (.bool true)) (.var 1)) .nil))) .nil))
def n_is_arrivals : List Str := ["weights", "thing", "_", "flow"]
def t_is_arrivals : Slim.S := (.cons (.exp (.call "check_weights" none (.cons (.var 0) .nil))) (.cons (.ret (.and (.cons (.call "is_arrivals_for_some" none (.cons (.var 1) .nil)) (.cons (.blt .all (.cons (.comp [2, 3, 2] (.tp (.cons (.nm 2) (.cons (.nm 3) (.cons (.nm 2) .nil)))) (.cons (.var 1) .nil) (.lit (.bool true)) (.call "is_flow" none (.cons (.var 0) (.cons (.var 3) .nil)))) .nil)) .nil)))) .nil))
def n_check_weights : List Str := ["weights"]
def t_check_weights : Slim.S := (.cons (.ife (.not (.call "is_weights" none (.cons (.var 0) .nil))) (.cons .fail .nil) .nil) .nil)
def n_check_arrivals : List Str := ["weights", "arrivals"]
def t_check_arrivals : Slim.S := (.cons (.ife (.not (.call "is_arrivals" none (.cons (.var 0) (.cons (.var 1) .nil)))) (.cons .fail .nil) .nil) .nil)
def n_check_flow : List Str := ["weights", "flow"]
def t_check_flow : Slim.S := (.cons (.ife (.not (.call "is_flow" none (.cons (.var 0) (.cons (.var 1) .nil)))) (.cons .fail .nil) .nil) .nil)
def n_share : List Str := ["weights", "flow"]
def t_share : Slim.S := (.cons (.exp (.call "check_weights" none (.cons (.var 0) .nil))) (.cons (.exp (.call "check_flow" none (.cons (.var 0) (.cons (.var 1) .nil)))) (.cons (.ret (.call "fraction" none (.cons (.idx (.var 0) (.var 1)) (.cons (.blt .sum (.cons (.var 0) .nil)) .nil)))) .nil)))
def n_longest : List Str := ["weights", "arrivals", "_", "length"]
def t_longest : Slim.S := (.cons (.exp (.call "check_arrivals" none (.cons (.var 0) (.cons (.var 1) .nil)))) (.cons (.ret (.blt (.maxd (.int 0)) (.cons (.comp [2, 2, 3] (.tp (.cons (.nm 2) (.cons (.nm 2) (.cons (.nm 3) .nil)))) (.cons (.var 1) .nil) (.lit (.bool true)) (.var 3)) .nil))) .nil))
def n_longest_of : List Str := ["arrivals", "flow", "_", "owner", "length"]
def t_longest_of : Slim.S := (.cons (.ret (.blt (.maxd (.int 0)) (.cons (.comp [2, 3, 4] (.tp (.cons (.nm 2) (.cons (.nm 3) (.cons (.nm 4) .nil)))) (.cons (.var 0) .nil) (.cmp .eq (.var 3) (.var 1)) (.var 4)) .nil))) .nil)
def n_own_longest : List Str := ["weights", "arrivals", "flow"]
def t_own_longest : Slim.S := (.cons (.exp (.call "check_arrivals" none (.cons (.var 0) (.cons (.var 1) .nil)))) (.cons (.exp (.call "check_flow" none (.cons (.var 0) (.cons (.var 2) .nil)))) (.cons (.ret (.call "longest_of" none (.cons (.var 1) (.cons (.var 2) .nil)))) .nil)))
def n__law_pick : List Str := ["deck", "some"]
def t__law_pick : Slim.S := (.cons (.ret (.idx (.var 1) (.call "_law_draw" (some 0) (.cons (.blt .len (.cons (.var 1) .nil)) .nil)))) .nil)
def n__law_same : List Str := ["told", "due"]
def t__law_same : Slim.S := (.cons (.ret (.cmp .eq (.blt .repr (.cons (.var 0) .nil)) (.blt .repr (.cons (.var 1) .nil)))) .nil)
def n__law_common : List Str := ["one", "other"]
def t__law_common : Slim.S := (.cons (.whl (.cmp .gt (.var 1) (.lit (.int 0))) (.cons (.par [0, 1] (.cons (.var 1) (.cons (.bin .mod (.blt .int (.cons (.var 0) .nil)) (.var 1)) .nil))) .nil)) (.cons (.ret (.var 0)) .nil))
def n__law_over : List Str := ["top", "bottom", "by"]
def t__law_over : Slim.S := (.cons (.asg 2 (.call "_law_common" none (.cons (.blt .abs (.cons (.var 0) .nil)) (.cons (.var 1) .nil)))) (.cons (.ret (.tup (.cons (.bin .fdiv (.var 0) (.var 2)) (.cons (.bin .fdiv (.var 1) (.var 2)) .nil)))) .nil))
def n__law_weights : List Str := ["deck", "many", "way", "weight", "flow"]
def t__law_weights : Slim.S := (.cons (.par [1, 2] (.cons (.call "_law_pick" (some 0) (.cons (.tup (.cons (.lit (.int 2)) (.cons (.lit (.int 3)) (.cons (.lit (.int 4)) (.cons (.lit (.int 2)) (.cons (.lit (.int 3)) (.cons (.lit (.int 1)) (.cons (.lit (.int 5)) (.cons (.lit (.int 8)) (.cons (.lit (.int 6)) (.cons (.lit (.int 7)) .nil))))))))))) .nil)) (.cons (.call "_law_draw" (some 0) (.cons (.lit (.int 4)) .nil)) .nil))) (.cons (.ife (.cmp .eq (.var 2) (.lit (.int 0))) (.cons (.asg 3 (.call "_law_pick" (some 0) (.cons (.tup (.cons (.lit (.int 1)) (.cons (.lit (.int 3)) (.cons (.lit (.int 12)) (.cons (.lit (.int 2)) .nil))))) .nil))) (.cons (.ret (.bin .mul (.tup (.cons (.var 3) .nil)) (.var 1))) .nil)) .nil) (.cons (.ife (.cmp .eq (.var 2) (.lit (.int 1))) (.cons (.ret (.blt .tuple (.cons (.comp [4] (.nm 4) (.rng1 (.var 1)) (.lit (.bool true)) (.call "_law_pick" (some 0) (.cons (.tup (.cons (.lit (.int 1)) (.cons (.lit (.int 12)) (.cons (.lit (.int 1)) (.cons (.lit (.int 11)) .nil))))) .nil))) .nil))) .nil) .nil) (.cons (.ret (.blt .tuple (.cons (.comp [4] (.nm 4) (.rng1 (.var 1)) (.lit (.bool true)) (.bin .add (.lit (.int 1)) (.call "_law_draw" (some 0) (.cons (.idx (.tup (.cons (.lit (.int 3)) (.cons (.lit (.int 12)) .nil))) (.bin .sub (.var 2) (.lit (.int 2)))) .nil)))) .nil))) .nil))))
def n__law_length : List Str := ["deck", "way"]
def t__law_length : Slim.S := (.cons (.ife (.cmp .eq (.var 1) (.lit (.int 0))) (.cons (.ret (.lit (.int 1))) .nil) .nil) (.cons (.ife (.cmp .eq (.var 1) (.lit (.int 4))) (.cons (.ret (.bin .add (.lit (.int 1)) (.call "_law_draw" (some 0) (.cons (.lit (.int 60)) .nil)))) .nil) .nil) (.cons (.ret (.call "_law_pick" (some 0) (.cons (.idx (.tup (.cons (.tup (.cons (.lit (.int 1)) (.cons (.lit (.int 2)) (.cons (.lit (.int 3)) .nil)))) (.cons (.tup (.cons (.lit (.int 1)) (.cons (.lit (.int 2)) (.cons (.lit (.int 30)) (.cons (.lit (.int 60)) (.cons (.lit (.int 5)) .nil)))))) (.cons (.tup (.cons (.lit (.int 4)) (.cons (.lit (.int 1)) (.cons (.lit (.int 7)) (.cons (.lit (.int 2)) (.cons (.lit (.int 9)) (.cons (.lit (.int 3)) .nil))))))) .nil)))) (.bin .sub (.var 1) (.lit (.int 1)))) .nil))) .nil)))
def n__law_arrivals : List Str := ["deck", "weights", "most", "go", "many", "way", "kind", "moment", "found", "flow"]
def t__law_arrivals : Slim.S := (.cons (.par [4, 5, 6] (.cons (.call "_law_draw" (some 0) (.cons (.bin .add (.var 2) (.lit (.int 1))) .nil)) (.cons (.call "_law_draw" (some 0) (.cons (.lit (.int 6)) .nil)) (.cons (.call "_law_draw" (some 0) (.cons (.lit (.int 5)) .nil)) .nil)))) (.cons (.ife (.cmp .eq (.call "_law_draw" (some 0) (.cons (.lit (.int 24)) .nil)) (.lit (.int 23))) (.cons (.asg 4 (.lit (.int 30))) .nil) .nil) (.cons (.par [7, 8, 9] (.cons (.call "_law_pick" (some 0) (.cons (.tup (.cons (.lit (.int 0)) (.cons (.lit (.int 0)) (.cons (.lit (.int 3)) (.cons (.lit (.int 1)) (.cons (.lit (.int 200)) .nil)))))) .nil)) (.cons (.lst .nil) (.cons (.lit (.int 0)) .nil)))) (.cons (.for_ (.nm 3) (.rng1 (.var 4)) (.cons (.ife (.cmp .eq (.var 5) (.lit (.int 1))) (.cons (.asg 7 (.bin .add (.var 7) (.call "_law_draw" (some 0) (.cons (.lit (.int 4)) .nil)))) .nil) (.cons (.ife (.and (.cons (.cmp .eq (.var 5) (.lit (.int 2))) (.cons (.cmp .eq (.call "_law_draw" (some 0) (.cons (.lit (.int 4)) .nil)) (.lit (.int 0))) .nil))) (.cons (.asg 7 (.bin .add (.var 7) (.call "_law_pick" (some 0) (.cons (.tup (.cons (.lit (.int 20)) (.cons (.lit (.int 3)) (.cons (.lit (.int 1)) (.cons (.lit (.int 60)) .nil))))) .nil)))) .nil) (.cons (.ife (.cmp .gt (.var 5) (.lit (.int 2))) (.cons (.asg 7 (.bin .add (.var 7) (.call "_law_pick" (some 0) (.cons (.tup (.cons (.lit (.int 0)) (.cons (.lit (.int 0)) (.cons (.lit (.int 1)) (.cons (.lit (.int 0)) (.cons (.lit (.int 2)) (.cons (.lit (.int 5)) (.cons (.lit (.int 1)) (.cons (.lit (.int 9)) .nil))))))))) .nil)))) .nil) .nil) .nil)) .nil)) (.cons (.ife (.or (.cons (.cmp .ne (.var 5) (.lit (.int 4))) (.cons (.cmp .eq (.call "_law_draw" (some 0) (.cons (.lit (.int 3)) .nil)) (.lit (.int 0))) .nil))) (.cons (.asg 9 (.call "_law_draw" (some 0) (.cons (.blt .len (.cons (.var 1) .nil)) .nil))) .nil) .nil) (.cons (.app 8 (.tup (.cons (.var 7) (.cons (.var 9) (.cons (.call "_law_length" (some 0) (.cons (.var 6) .nil)) .nil))))) .nil)))) (.cons (.ret (.blt .tuple (.cons (.var 8) .nil))) .nil)))))
def n__law_deck : List Str := ["script", "mixed", "cell"]
def n__law_draw : List Str := ["deck", "many", "figure", "cell"]
def n_busy : List Str := ["weights", "arrivals", "stretches", "moment", "_", "length", "begin", "end"]
def t_busy : Slim.S := (.cons (.exp (.call "check_arrivals" none (.cons (.var 0) (.cons (.var 1) .nil)))) (.cons (.asg 2 (.lst .nil)) (.cons (.for_ (.tp (.cons (.nm 3) (.cons (.nm 4) (.cons (.nm 5) .nil)))) (.cons (.var 1) .nil) (.cons (.ife (.and (.cons (.var 2) (.cons (.cmp .le (.var 3) (.idx (.idx (.var 2) (.neg (.lit (.int 1)))) (.lit (.int 1)))) .nil))) (.cons (.popt (.tp (.cons (.nm 6) (.cons (.nm 7) .nil))) 2) (.cons (.app 2 (.tup (.cons (.var 6) (.cons (.bin .add (.var 7) (.var 5)) .nil)))) .nil)) (.cons (.app 2 (.tup (.cons (.var 3) (.cons (.bin .add (.var 3) (.var 5)) .nil)))) .nil)) .nil)) (.cons (.ret (.blt .tuple (.cons (.var 2) .nil))) .nil))))
def n__law_busy : List Str := ["arrivals", "found", "moment", "flow", "length"]
def t__law_busy : Slim.S := (.cons (.asg 1 (.lst .nil)) (.cons (.for_ (.tp (.cons (.nm 2) (.cons (.nm 3) (.cons (.nm 4) .nil)))) (.cons (.var 0) .nil) (.cons (.ife (.and (.cons (.cmp .ne (.var 1) (.lst .nil)) (.cons (.cmp .le (.var 2) (.idx (.idx (.var 1) (.neg (.lit (.int 1)))) (.lit (.int 1)))) .nil))) (.cons (.set 1 (.neg (.lit (.int 1))) (.tup (.cons (.idx (.idx (.var 1) (.neg (.lit (.int 1)))) (.lit (.int 0))) (.cons (.bin .add (.idx (.idx (.var 1) (.neg (.lit (.int 1)))) (.lit (.int 1))) (.var 4)) .nil)))) .nil) (.cons (.app 1 (.tup (.cons (.var 2) (.cons (.bin .add (.var 2) (.var 4)) .nil)))) .nil)) .nil)) (.cons (.ret (.blt .tuple (.cons (.var 1) .nil))) .nil)))
def n_is_fraction : List Str := ["thing", "top", "bottom"]
def t_is_fraction : Slim.S := (.cons (.ife (.or (.cons (.not (.isa .tuple (.var 0))) (.cons (.cmp .ne (.blt .len (.cons (.var 0) .nil)) (.lit (.int 2))) .nil))) (.cons (.ret (.lit (.bool false))) .nil) .nil) (.cons (.asgt (.tp (.cons (.nm 1) (.cons (.nm 2) .nil))) (.var 0)) (.cons (.ife (.or (.cons (.not (.call "is_whole" none (.cons (.var 1) .nil))) (.cons (.not (.call "is_whole" none (.cons (.var 2) .nil))) .nil))) (.cons (.ret (.lit (.bool false))) .nil) .nil) (.cons (.ret (.and (.cons (.cmp .gt (.var 2) (.lit (.int 0))) (.cons (.cmp .eq (.blt .gcd (.cons (.var 1) (.cons (.var 2) .nil))) (.lit (.int 1))) .nil)))) .nil))))
def n_is_from_zero : List Str := ["thing"]
def t_is_from_zero : Slim.S := (.cons (.ret (.and (.cons (.call "is_fraction" none (.cons (.var 0) .nil)) (.cons (.cmp .ge (.idx (.var 0) (.lit (.int 0))) (.lit (.int 0))) .nil)))) .nil)
def n_check_moment : List Str := ["moment"]
def t_check_moment : Slim.S := (.cons (.ife (.not (.call "is_from_zero" none (.cons (.var 0) .nil))) (.cons .fail .nil) .nil) .nil)
def n_plus : List Str := ["left", "right"]
def t_plus : Slim.S := (.cons (.ret (.call "fraction" none (.cons (.bin .add (.bin .mul (.idx (.var 0) (.lit (.int 0))) (.idx (.var 1) (.lit (.int 1)))) (.bin .mul (.idx (.var 1) (.lit (.int 0))) (.idx (.var 0) (.lit (.int 1))))) (.cons (.bin .mul (.idx (.var 0) (.lit (.int 1))) (.idx (.var 1) (.lit (.int 1)))) .nil)))) .nil)
def n_minus : List Str := ["left", "right"]
def t_minus : Slim.S := (.cons (.ret (.call "fraction" none (.cons (.bin .sub (.bin .mul (.idx (.var 0) (.lit (.int 0))) (.idx (.var 1) (.lit (.int 1)))) (.bin .mul (.idx (.var 1) (.lit (.int 0))) (.idx (.var 0) (.lit (.int 1))))) (.cons (.bin .mul (.idx (.var 0) (.lit (.int 1))) (.idx (.var 1) (.lit (.int 1)))) .nil)))) .nil)
def n_times : List Str := ["factor", "whole"]
def t_times : Slim.S := (.cons (.ret (.call "fraction" none (.cons (.bin .mul (.idx (.var 0) (.lit (.int 0))) (.var 1)) (.cons (.idx (.var 0) (.lit (.int 1))) .nil)))) .nil)
def n_over : List Str := ["part", "whole"]
def t_over : Slim.S := (.cons (.ret (.call "fraction" none (.cons (.idx (.var 0) (.lit (.int 0))) (.cons (.bin .mul (.idx (.var 0) (.lit (.int 1))) (.var 1)) .nil)))) .nil)
def n_is_below : List Str := ["left", "right"]
def t_is_below : Slim.S := (.cons (.ret (.cmp .lt (.bin .mul (.idx (.var 0) (.lit (.int 0))) (.idx (.var 1) (.lit (.int 1)))) (.bin .mul (.idx (.var 1) (.lit (.int 0))) (.idx (.var 0) (.lit (.int 1)))))) .nil)
def n_greater : List Str := ["left", "right"]
def t_greater : Slim.S := (.cons (.ret (.ite (.call "is_below" none (.cons (.var 0) (.cons (.var 1) .nil))) (.var 1) (.var 0))) .nil)
def n_least : List Str := ["fractions", "found", "each"]
def t_least : Slim.S := (.cons (.asg 1 (.idx (.var 0) (.lit (.int 0)))) (.cons (.for_ (.nm 2) (.cons (.var 0) .nil) (.cons (.ife (.call "is_below" none (.cons (.var 2) (.cons (.var 1) .nil))) (.cons (.asg 1 (.var 2)) .nil) .nil) .nil)) (.cons (.ret (.var 1)) .nil)))
def n_value_on : List Str := ["leg", "moment", "begun", "value", "weight"]
def t_value_on : Slim.S := (.cons (.asgt (.tp (.cons (.nm 2) (.cons (.nm 3) (.cons (.nm 4) .nil)))) (.var 0)) (.cons (.ife (.cmp .eq (.var 4) (.lit (.int 0))) (.cons (.ret (.var 3)) .nil) .nil) (.cons (.ret (.call "plus" none (.cons (.var 3) (.cons (.call "over" none (.cons (.call "minus" none (.cons (.var 1) (.cons (.var 2) .nil))) (.cons (.var 4) .nil))) .nil)))) .nil)))
def n_moment_on : List Str := ["leg", "value", "begun", "first", "weight"]
def t_moment_on : Slim.S := (.cons (.asgt (.tp (.cons (.nm 2) (.cons (.nm 3) (.cons (.nm 4) .nil)))) (.var 0)) (.cons (.ret (.call "plus" none (.cons (.var 2) (.cons (.call "times" none (.cons (.call "minus" none (.cons (.var 1) (.cons (.var 3) .nil))) (.cons (.var 4) .nil))) .nil)))) .nil))
def n_leg_from : List Str := ["weights", "finals", "moment", "value", "waiting", "weight", "final"]
def t_leg_from : Slim.S := (.cons (.asg 4 (.comp [5, 6] (.tp (.cons (.nm 5) (.cons (.nm 6) .nil))) (.zp (.var 0) (.var 1)) (.call "is_below" none (.cons (.var 3) (.cons (.var 6) .nil))) (.var 5))) (.cons (.ret (.tup (.cons (.var 2) (.cons (.var 3) (.cons (.blt .sum (.cons (.var 4) .nil)) .nil))))) .nil))
def n_leg_after : List Str := ["weights", "finals", "leg", "first", "_", "value", "weight", "final"]
def t_leg_after : Slim.S := (.cons (.asgt (.tp (.cons (.nm 4) (.cons (.nm 5) (.cons (.nm 6) .nil)))) (.var 2)) (.cons (.ife (.cmp .eq (.var 6) (.lit (.int 0))) (.cons (.ret (.lit .none)) .nil) .nil) (.cons (.asg 3 (.call "least" none (.cons (.comp [7] (.nm 7) (.cons (.var 1) .nil) (.call "is_below" none (.cons (.var 5) (.cons (.var 7) .nil))) (.var 7)) .nil))) (.cons (.ret (.call "leg_from" none (.cons (.var 0) (.cons (.var 1) (.cons (.call "moment_on" none (.cons (.var 2) (.cons (.var 3) .nil))) (.cons (.var 3) .nil)))))) .nil))))
def n_legs_until : List Str := ["weights", "finals", "leg", "moment", "legs", "following"]
def t_legs_until : Slim.S := (.cons (.asg 4 (.lst .nil)) (.cons (.asg 5 (.call "leg_after" none (.cons (.var 0) (.cons (.var 1) (.cons (.var 2) .nil))))) (.cons (.whl (.and (.cons (.cmp .isnt (.var 5) (.lit .none)) (.cons (.or (.cons (.cmp .is (.var 3) (.lit .none)) (.cons (.not (.call "is_below" none (.cons (.var 3) (.cons (.idx (.var 5) (.lit (.int 0))) .nil)))) .nil))) .nil))) (.cons (.app 4 (.var 5)) (.cons (.asg 5 (.call "leg_after" none (.cons (.var 0) (.cons (.var 1) (.cons (.var 5) .nil))))) .nil))) (.cons (.ret (.var 4)) .nil))))
def n_tags_and_legs : List Str := ["weights", "arrivals", "finals", "pairs", "legs", "whole", "flow", "length", "moment", "value", "begin", "end", "_"]
def t_tags_and_legs : Slim.S := (.cons (.asg 2 (.comp [12] (.nm 12) (.cons (.var 0) .nil) (.lit (.bool true)) (.glob "ZERO"))) (.cons (.asg 3 (.lst .nil)) (.cons (.asg 4 (.lst (.cons (.call "leg_from" none (.cons (.var 0) (.cons (.var 2) (.cons (.glob "ZERO") (.cons (.glob "ZERO") .nil))))) .nil))) (.cons (.for_ (.tp (.cons (.nm 5) (.cons (.nm 6) (.cons (.nm 7) .nil)))) (.cons (.var 1) .nil) (.cons (.asg 8 (.tup (.cons (.var 5) (.cons (.lit (.int 1)) .nil)))) (.cons (.asg 4 (.bin .add (.var 4) (.call "legs_until" none (.cons (.var 0) (.cons (.var 2) (.cons (.idx (.var 4) (.neg (.lit (.int 1)))) (.cons (.var 8) .nil))))))) (.cons (.asg 9 (.call "value_on" none (.cons (.idx (.var 4) (.neg (.lit (.int 1)))) (.cons (.var 8) .nil)))) (.cons (.asg 10 (.call "greater" none (.cons (.var 9) (.cons (.idx (.var 2) (.var 6)) .nil)))) (.cons (.asg 11 (.call "plus" none (.cons (.var 10) (.cons (.call "fraction" none (.cons (.var 7) (.cons (.idx (.var 0) (.var 6)) .nil))) .nil)))) (.cons (.app 3 (.tup (.cons (.var 10) (.cons (.var 11) .nil)))) (.cons (.set 2 (.var 6) (.var 11)) (.cons (.app 4 (.call "leg_from" none (.cons (.var 0) (.cons (.var 2) (.cons (.var 8) (.cons (.var 9) .nil)))))) .nil))))))))) (.cons (.ret (.tup (.cons (.blt .tuple (.cons (.var 3) .nil)) (.cons (.bin .add (.var 4) (.call "legs_until" none (.cons (.var 0) (.cons (.var 2) (.cons (.idx (.var 4) (.neg (.lit (.int 1)))) (.cons (.lit .none) .nil)))))) .nil)))) .nil)))))
def n_clock_at : List Str := ["legs", "moment", "begun", "leg"]
def t_clock_at : Slim.S := (.cons (.asg 2 (.comp [3] (.nm 3) (.cons (.var 0) .nil) (.not (.call "is_below" none (.cons (.var 1) (.cons (.idx (.var 3) (.lit (.int 0))) .nil)))) (.var 3))) (.cons (.ret (.call "value_on" none (.cons (.idx (.var 2) (.neg (.lit (.int 1)))) (.cons (.var 1) .nil)))) .nil))
def n_given_of : List Str := ["length", "weight", "tags", "value", "begin", "end"]
def t_given_of : Slim.S := (.cons (.asgt (.tp (.cons (.nm 4) (.cons (.nm 5) .nil))) (.var 2)) (.cons (.ife (.not (.call "is_below" none (.cons (.var 4) (.cons (.var 3) .nil)))) (.cons (.ret (.glob "ZERO")) .nil) .nil) (.cons (.ife (.call "is_below" none (.cons (.var 3) (.cons (.var 5) .nil))) (.cons (.ret (.call "times" none (.cons (.call "minus" none (.cons (.var 3) (.cons (.var 4) .nil))) (.cons (.var 1) .nil)))) .nil) .nil) (.cons (.ret (.tup (.cons (.var 0) (.cons (.lit (.int 1)) .nil)))) .nil))))
def n_given_at : List Str := ["weights", "arrivals", "tags", "legs", "moment", "value", "amounts", "own", "_", "flow", "length"]
def t_given_at : Slim.S := (.cons (.asg 5 (.call "clock_at" none (.cons (.var 3) (.cons (.var 4) .nil)))) (.cons (.asg 6 (.comp [8] (.nm 8) (.cons (.var 0) .nil) (.lit (.bool true)) (.glob "ZERO"))) (.cons (.for_ (.tp (.cons (.tp (.cons (.nm 8) (.cons (.nm 9) (.cons (.nm 10) .nil)))) (.cons (.nm 7) .nil))) (.zp (.var 1) (.var 2)) (.cons (.set 6 (.var 9) (.call "plus" none (.cons (.idx (.var 6) (.var 9)) (.cons (.call "given_of" none (.cons (.var 10) (.cons (.idx (.var 0) (.var 9)) (.cons (.var 7) (.cons (.var 5) .nil))))) .nil)))) .nil)) (.cons (.ret (.blt .tuple (.cons (.var 6) .nil))) .nil))))
def n_ideal_given : List Str := ["weights", "arrivals", "moment", "tags", "legs"]
def t_ideal_given : Slim.S := (.cons (.exp (.call "check_arrivals" none (.cons (.var 0) (.cons (.var 1) .nil)))) (.cons (.exp (.call "check_moment" none (.cons (.var 2) .nil))) (.cons (.asgt (.tp (.cons (.nm 3) (.cons (.nm 4) .nil))) (.call "tags_and_legs" none (.cons (.var 0) (.cons (.var 1) .nil)))) (.cons (.ret (.call "given_at" none (.cons (.var 0) (.cons (.var 1) (.cons (.var 3) (.cons (.var 4) (.cons (.var 2) .nil))))))) .nil))))
def n__law_plus : List Str := ["one", "other"]
def t__law_plus : Slim.S := (.cons (.ret (.call "_law_over" none (.cons (.bin .add (.bin .mul (.idx (.var 0) (.lit (.int 0))) (.idx (.var 1) (.lit (.int 1)))) (.bin .mul (.idx (.var 1) (.lit (.int 0))) (.idx (.var 0) (.lit (.int 1))))) (.cons (.bin .mul (.idx (.var 0) (.lit (.int 1))) (.idx (.var 1) (.lit (.int 1)))) .nil)))) .nil)
def n__law_minus : List Str := ["one", "other"]
def t__law_minus : Slim.S := (.cons (.ret (.call "_law_over" none (.cons (.bin .sub (.bin .mul (.idx (.var 0) (.lit (.int 0))) (.idx (.var 1) (.lit (.int 1)))) (.bin .mul (.idx (.var 1) (.lit (.int 0))) (.idx (.var 0) (.lit (.int 1))))) (.cons (.bin .mul (.idx (.var 0) (.lit (.int 1))) (.idx (.var 1) (.lit (.int 1)))) .nil)))) .nil)
def n__law_times : List Str := ["one", "top", "bottom"]
def t__law_times : Slim.S := (.cons (.ret (.call "_law_over" none (.cons (.bin .mul (.idx (.var 0) (.lit (.int 0))) (.var 1)) (.cons (.bin .mul (.idx (.var 0) (.lit (.int 1))) (.var 2)) .nil)))) .nil)
def n__law_less : List Str := ["one", "other"]
def t__law_less : Slim.S := (.cons (.ret (.cmp .lt (.bin .mul (.idx (.var 0) (.lit (.int 0))) (.idx (.var 1) (.lit (.int 1)))) (.bin .mul (.idx (.var 1) (.lit (.int 0))) (.idx (.var 0) (.lit (.int 1)))))) .nil)
def n__law_pieces : List Str := ["weights", "arrivals", "go", "pieces", "now", "at", "size", "given", "left", "waiting", "flow", "step", "moment", "length", "total", "until", "end", "more"]
def t__law_pieces : Slim.S := (.cons (.par [3, 4, 5, 6] (.cons (.lst .nil) (.cons (.tup (.cons (.lit (.int 0)) (.cons (.lit (.int 1)) .nil))) (.cons (.lit (.int 0)) (.cons (.blt .len (.cons (.var 1) .nil)) .nil))))) (.cons (.par [7, 8] (.cons (.bin .mul (.lst (.cons (.tup (.cons (.lit (.int 0)) (.cons (.lit (.int 1)) .nil))) .nil)) (.blt .len (.cons (.var 0) .nil))) (.cons (.bin .mul (.lst (.cons (.tup (.cons (.lit (.int 0)) (.cons (.lit (.int 1)) .nil))) .nil)) (.blt .len (.cons (.var 0) .nil))) .nil))) (.cons (.for_ (.nm 2) (.rng1 (.bin .add (.bin .mul (.lit (.int 3)) (.var 6)) (.lit (.int 3)))) (.cons (.for_ (.tp (.cons (.nm 12) (.cons (.nm 10) (.cons (.nm 13) .nil)))) (.cons (.slc (.var 1) (.cons (.var 5) .nil) .nil) .nil) (.cons (.ife (.cmp .le (.bin .mul (.var 12) (.idx (.var 4) (.lit (.int 1)))) (.idx (.var 4) (.lit (.int 0)))) (.cons (.pmx (.cons (.idx (.var 8) (.var 10)) (.cons (.var 5) .nil)) (.cons (.call "_law_plus" none (.cons (.idx (.var 8) (.var 10)) (.cons (.tup (.cons (.var 13) (.cons (.lit (.int 1)) .nil))) .nil))) (.cons (.bin .add (.var 5) (.lit (.int 1))) .nil))) .nil) .nil) .nil)) (.cons (.asg 9 (.comp [10] (.nm 10) (.rng1 (.blt .len (.cons (.var 0) .nil))) (.cmp .gt (.idx (.idx (.var 8) (.var 10)) (.lit (.int 0))) (.lit (.int 0))) (.var 10))) (.cons (.ife (.cmp .eq (.var 9) (.lst .nil)) (.cons (.ife (.cmp .eq (.var 5) (.var 6)) (.cons (.ret (.tup (.cons (.var 3) (.cons (.var 7) .nil)))) .nil) .nil) (.cons (.asg 4 (.tup (.cons (.idx (.idx (.var 1) (.var 5)) (.lit (.int 0))) (.cons (.lit (.int 1)) .nil)))) (.cons .cnt .nil))) .nil) (.cons (.par [14, 15] (.cons (.blt .sum (.cons (.comp [10] (.nm 10) (.cons (.var 9) .nil) (.lit (.bool true)) (.idx (.var 0) (.var 10))) .nil)) (.cons (.lit .none) .nil))) (.cons (.for_ (.nm 10) (.cons (.var 9) .nil) (.cons (.asg 16 (.call "_law_plus" none (.cons (.var 4) (.cons (.call "_law_times" none (.cons (.idx (.var 8) (.var 10)) (.cons (.var 14) (.cons (.idx (.var 0) (.var 10)) .nil)))) .nil)))) (.cons (.asg 15 (.ite (.or (.cons (.cmp .is (.var 15) (.lit .none)) (.cons (.call "_law_less" none (.cons (.var 16) (.cons (.var 15) .nil))) .nil))) (.var 16) (.var 15))) .nil))) (.cons (.ife (.and (.cons (.cmp .lt (.var 5) (.var 6)) (.cons (.cmp .lt (.bin .mul (.idx (.idx (.var 1) (.var 5)) (.lit (.int 0))) (.idx (.var 15) (.lit (.int 1)))) (.idx (.var 15) (.lit (.int 0)))) .nil))) (.cons (.asg 15 (.tup (.cons (.idx (.idx (.var 1) (.var 5)) (.lit (.int 0))) (.cons (.lit (.int 1)) .nil)))) .nil) .nil) (.cons (.app 3 (.tup (.cons (.var 4) (.cons (.var 15) (.cons (.blt .tuple (.cons (.var 9) .nil)) (.cons (.var 14) (.cons (.blt .tuple (.cons (.var 7) .nil)) .nil))))))) (.cons (.asg 11 (.call "_law_minus" none (.cons (.var 15) (.cons (.var 4) .nil)))) (.cons (.for_ (.nm 10) (.cons (.var 9) .nil) (.cons (.asg 17 (.call "_law_times" none (.cons (.var 11) (.cons (.idx (.var 0) (.var 10)) (.cons (.var 14) .nil))))) (.cons (.pmx (.cons (.idx (.var 7) (.var 10)) (.cons (.idx (.var 8) (.var 10)) .nil)) (.cons (.call "_law_plus" none (.cons (.idx (.var 7) (.var 10)) (.cons (.var 17) .nil))) (.cons (.call "_law_minus" none (.cons (.idx (.var 8) (.var 10)) (.cons (.var 17) .nil))) .nil))) .nil))) (.cons (.asg 4 (.var 15)) .nil))))))))))) (.cons (.ret (.tup (.cons (.var 3) (.cons (.var 7) .nil)))) .nil))))
def n__law_given : List Str := ["weights", "line", "moment", "pieces", "found", "begin", "end", "waiting", "total", "given", "step", "flow"]
def t__law_given : Slim.S := (.cons (.asgt (.tp (.cons (.nm 3) (.cons (.nm 4) .nil))) (.var 1)) (.cons (.for_ (.tp (.cons (.nm 5) (.cons (.nm 6) (.cons (.nm 7) (.cons (.nm 8) (.cons (.nm 9) .nil)))))) (.cons (.rev (.var 3)) .nil) (.cons (.ife (.not (.call "_law_less" none (.cons (.var 2) (.cons (.var 6) .nil)))) (.cons (.ret (.blt .tuple (.cons (.var 4) .nil))) .nil) .nil) (.cons (.asg 4 (.blt .list (.cons (.var 9) .nil))) (.cons (.ife (.call "_law_less" none (.cons (.var 5) (.cons (.var 2) .nil))) (.cons (.asg 10 (.call "_law_minus" none (.cons (.var 2) (.cons (.var 5) .nil)))) (.cons (.for_ (.nm 11) (.cons (.var 7) .nil) (.cons (.set 4 (.var 11) (.call "_law_plus" none (.cons (.idx (.var 4) (.var 11)) (.cons (.call "_law_times" none (.cons (.var 10) (.cons (.idx (.var 0) (.var 11)) (.cons (.var 8) .nil)))) .nil)))) .nil)) (.cons (.ret (.blt .tuple (.cons (.var 4) .nil))) .nil))) .nil) .nil)))) (.cons (.ret (.blt .tuple (.cons (.var 4) .nil))) .nil)))
def n__law_beside : List Str := ["deck", "it"]
def t__law_beside : Slim.S := (.cons (.ife (.cmp .gt (.idx (.var 1) (.lit (.int 1))) (.bin .pow (.lit (.int 10)) (.lit (.int 60)))) (.cons (.ret (.var 1)) .nil) .nil) (.cons (.ret (.ite (.or (.cons (.cmp .eq (.idx (.var 1) (.lit (.int 0))) (.lit (.int 0))) (.cons (.cmp .eq (.call "_law_draw" (some 0) (.cons (.lit (.int 2)) .nil)) (.lit (.int 0))) .nil))) (.call "_law_plus" none (.cons (.var 1) (.cons (.tup (.cons (.lit (.int 1)) (.cons (.bin .pow (.lit (.int 10)) (.lit (.int 30))) .nil))) .nil))) (.call "_law_minus" none (.cons (.var 1) (.cons (.tup (.cons (.lit (.int 1)) (.cons (.bin .pow (.lit (.int 10)) (.lit (.int 30))) .nil))) .nil))))) .nil))
def n__law_moments : List Str := ["deck", "arrivals", "line", "many", "last", "go", "turns", "found", "begin", "end", "waiting", "total", "given", "way", "moment"]
def t__law_moments : Slim.S := (.cons (.par [6, 7] (.cons (.lst (.cons (.tup (.cons (.lit (.int 0)) (.cons (.lit (.int 1)) .nil))) .nil)) (.cons (.lst .nil) .nil))) (.cons (.for_ (.tp (.cons (.nm 8) (.cons (.nm 9) (.cons (.nm 10) (.cons (.nm 11) (.cons (.nm 12) .nil)))))) (.cons (.idx (.var 2) (.lit (.int 0))) .nil) (.cons (.asg 6 (.bin .add (.var 6) (.lst (.cons (.var 8) (.cons (.var 9) (.cons (.call "_law_times" none (.cons (.call "_law_plus" none (.cons (.var 8) (.cons (.var 9) .nil))) (.cons (.lit (.int 1)) (.cons (.lit (.int 2)) .nil)))) .nil)))))) .nil)) (.cons (.asg 4 (.ite (.cmp .gt (.blt .len (.cons (.var 6) .nil)) (.lit (.int 1))) (.idx (.var 6) (.neg (.lit (.int 2)))) (.tup (.cons (.lit (.int 0)) (.cons (.lit (.int 1)) .nil))))) (.cons (.for_ (.nm 5) (.rng1 (.var 3)) (.cons (.asg 13 (.call "_law_draw" (some 0) (.cons (.lit (.int 9)) .nil))) (.cons (.asg 14 (.call "_law_pick" (some 0) (.cons (.var 6) .nil))) (.cons (.ife (.and (.cons (.cmp .eq (.var 13) (.lit (.int 0))) (.cons (.cmp .ne (.var 1) (.tup .nil)) .nil))) (.cons (.asg 14 (.tup (.cons (.idx (.call "_law_pick" (some 0) (.cons (.var 1) .nil)) (.lit (.int 0))) (.cons (.lit (.int 1)) .nil)))) .nil) (.cons (.ife (.cmp .eq (.var 13) (.lit (.int 1))) (.cons (.asg 14 (.call "_law_plus" none (.cons (.var 4) (.cons (.call "_law_pick" (some 0) (.cons (.tup (.cons (.tup (.cons (.lit (.int 0)) (.cons (.lit (.int 1)) .nil))) (.cons (.tup (.cons (.lit (.int 1)) (.cons (.lit (.int 1)) .nil))) (.cons (.tup (.cons (.lit (.int 1)) (.cons (.lit (.int 7)) .nil))) (.cons (.tup (.cons (.lit (.int 900)) (.cons (.lit (.int 1)) .nil))) .nil))))) .nil)) .nil)))) .nil) (.cons (.ife (.cmp .eq (.var 13) (.lit (.int 2))) (.cons (.asg 14 (.call "_law_over" none (.cons (.call "_law_draw" (some 0) (.cons (.bin .add (.lit (.int 1)) (.bin .mul (.lit (.int 24)) (.bin .add (.bin .fdiv (.idx (.var 4) (.lit (.int 0))) (.idx (.var 4) (.lit (.int 1)))) (.lit (.int 1))))) .nil)) (.cons (.lit (.int 24)) .nil)))) .nil) (.cons (.ife (.cmp .eq (.var 13) (.lit (.int 3))) (.cons (.asg 14 (.call "_law_plus" none (.cons (.var 14) (.cons (.tup (.cons (.lit (.int 1)) (.cons (.bin .add (.lit (.int 2)) (.call "_law_draw" (some 0) (.cons (.lit (.int 120)) .nil))) .nil))) .nil)))) .nil) (.cons (.ife (.cmp .gt (.var 13) (.lit (.int 6))) (.cons (.asg 14 (.call "_law_beside" (some 0) (.cons (.var 14) .nil))) .nil) .nil) .nil)) .nil)) .nil)) .nil)) (.cons (.app 7 (.var 14)) .nil))))) (.cons (.ret (.var 7)) .nil)))))
def n__law_busy_time : List Str := ["arrivals", "moment", "found", "begin", "end", "until"]
def t__law_busy_time : Slim.S := (.cons (.asg 2 (.tup (.cons (.lit (.int 0)) (.cons (.lit (.int 1)) .nil)))) (.cons (.for_ (.tp (.cons (.nm 3) (.cons (.nm 4) .nil))) (.cons (.call "_law_busy" none (.cons (.var 0) .nil)) .nil) (.cons (.ife (.cmp .gt (.idx (.var 1) (.lit (.int 0))) (.bin .mul (.var 3) (.idx (.var 1) (.lit (.int 1))))) (.cons (.asg 5 (.ite (.call "_law_less" none (.cons (.var 1) (.cons (.tup (.cons (.var 4) (.cons (.lit (.int 1)) .nil))) .nil))) (.var 1) (.tup (.cons (.var 4) (.cons (.lit (.int 1)) .nil))))) (.cons (.asg 2 (.call "_law_plus" none (.cons (.var 2) (.cons (.call "_law_minus" none (.cons (.var 5) (.cons (.tup (.cons (.var 3) (.cons (.lit (.int 1)) .nil))) .nil))) .nil)))) .nil)) .nil) .nil)) (.cons (.ret (.var 2)) .nil)))
def n__law_sum : List Str := ["some", "found", "it"]
def t__law_sum : Slim.S := (.cons (.asg 1 (.tup (.cons (.lit (.int 0)) (.cons (.lit (.int 1)) .nil)))) (.cons (.for_ (.nm 2) (.cons (.var 0) .nil) (.cons (.asg 1 (.call "_law_plus" none (.cons (.var 1) (.cons (.var 2) .nil)))) .nil)) (.cons (.ret (.var 1)) .nil)))
def n__law_is_piece_right : List Str := ["deck", "weights", "arrivals", "piece", "one", "other", "time", "flow", "begin", "end", "waiting", "total", "given", "step", "parts", "low", "high", "due"]
def t__law_is_piece_right : Slim.S := (.cons (.asgt (.tp (.cons (.nm 8) (.cons (.nm 9) (.cons (.nm 10) (.cons (.nm 11) (.cons (.nm 12) .nil)))))) (.var 3)) (.cons (.par [13, 14] (.cons (.call "_law_minus" none (.cons (.var 9) (.cons (.var 8) .nil))) (.cons (.call "_law_pick" (some 0) (.cons (.tup (.cons (.tup (.cons (.lit (.int 0)) (.cons (.lit (.int 1)) (.cons (.lit (.int 1)) .nil)))) (.cons (.tup (.cons (.lit (.int 1)) (.cons (.lit (.int 2)) (.cons (.lit (.int 3)) .nil)))) (.cons (.tup (.cons (.lit (.int 0)) (.cons (.lit (.int 1)) (.cons (.lit (.int 2)) .nil)))) (.cons (.tup (.cons (.lit (.int 1)) (.cons (.lit (.int 3)) (.cons (.lit (.int 7)) .nil)))) .nil))))) .nil)) .nil))) (.cons (.asg 4 (.call "_law_plus" none (.cons (.var 8) (.cons (.call "_law_times" none (.cons (.var 13) (.cons (.idx (.var 14) (.lit (.int 0))) (.cons (.idx (.var 14) (.lit (.int 2))) .nil)))) .nil)))) (.cons (.asg 5 (.call "_law_plus" none (.cons (.var 8) (.cons (.call "_law_times" none (.cons (.var 13) (.cons (.idx (.var 14) (.lit (.int 1))) (.cons (.idx (.var 14) (.lit (.int 2))) .nil)))) .nil)))) (.cons (.par [15, 16] (.cons (.call "ideal_given" none (.cons (.var 1) (.cons (.var 2) (.cons (.var 4) .nil)))) (.cons (.callk "ideal_given" ["moment", "arrivals", "weights"] [2, 1, 0] (.cons (.var 5) (.cons (.var 2) (.cons (.var 1) .nil)))) .nil))) (.cons (.asg 6 (.call "_law_minus" none (.cons (.var 5) (.cons (.var 4) .nil)))) (.cons (.ife (.or (.cons (.cmp .ne (.blt .len (.cons (.var 15) .nil)) (.blt .len (.cons (.var 1) .nil))) (.cons (.cmp .ne (.blt .len (.cons (.var 16) .nil)) (.blt .len (.cons (.var 1) .nil))) .nil))) (.cons (.ret (.lit (.bool false))) .nil) .nil) (.cons (.for_ (.nm 7) (.rng1 (.blt .len (.cons (.var 1) .nil))) (.cons (.asg 17 (.ite (.cmp .isin (.var 7) (.var 10)) (.call "_law_times" none (.cons (.var 6) (.cons (.idx (.var 1) (.var 7)) (.cons (.var 11) .nil)))) (.tup (.cons (.lit (.int 0)) (.cons (.lit (.int 1)) .nil))))) (.cons (.ife (.not (.call "_law_same" none (.cons (.call "_law_minus" none (.cons (.idx (.var 16) (.var 7)) (.cons (.idx (.var 15) (.var 7)) .nil))) (.cons (.var 17) .nil)))) (.cons (.ret (.lit (.bool false))) .nil) .nil) (.cons (.ife (.not (.call "_law_same" none (.cons (.call "share" none (.cons (.var 1) (.cons (.var 7) .nil))) (.cons (.call "_law_over" none (.cons (.idx (.var 1) (.var 7)) (.cons (.blt .sum (.cons (.var 1) .nil)) .nil))) .nil)))) (.cons (.ret (.lit (.bool false))) .nil) .nil) .nil)))) (.cons (.ret (.lit (.bool true))) .nil)))))))))
def n_moment_at : List Str := ["legs", "value", "earlier", "leg"]
def t_moment_at : Slim.S := (.cons (.asg 2 (.comp [3] (.nm 3) (.cons (.var 0) .nil) (.call "is_below" none (.cons (.idx (.var 3) (.lit (.int 1))) (.cons (.var 1) .nil))) (.var 3))) (.cons (.ife (.not (.var 2)) (.cons (.ret (.glob "ZERO")) .nil) .nil) (.cons (.ife (.cmp .eq (.idx (.idx (.var 2) (.neg (.lit (.int 1)))) (.lit (.int 2))) (.lit (.int 0))) (.cons (.ret (.lit .none)) .nil) .nil) (.cons (.ret (.call "moment_on" none (.cons (.idx (.var 2) (.neg (.lit (.int 1)))) (.cons (.var 1) .nil)))) .nil))))
def n_clock : List Str := ["weights", "arrivals", "moment", "_", "legs"]
def t_clock : Slim.S := (.cons (.exp (.call "check_arrivals" none (.cons (.var 0) (.cons (.var 1) .nil)))) (.cons (.exp (.call "check_moment" none (.cons (.var 2) .nil))) (.cons (.asgt (.tp (.cons (.nm 3) (.cons (.nm 4) .nil))) (.call "tags_and_legs" none (.cons (.var 0) (.cons (.var 1) .nil)))) (.cons (.ret (.call "clock_at" none (.cons (.var 4) (.cons (.var 2) .nil)))) .nil))))
def n_tags : List Str := ["weights", "arrivals", "pairs", "_"]
def t_tags : Slim.S := (.cons (.exp (.call "check_arrivals" none (.cons (.var 0) (.cons (.var 1) .nil)))) (.cons (.asgt (.tp (.cons (.nm 2) (.cons (.nm 3) .nil))) (.call "tags_and_legs" none (.cons (.var 0) (.cons (.var 1) .nil)))) (.cons (.ret (.var 2)) .nil)))
def n_moment_of : List Str := ["weights", "arrivals", "value", "_", "legs"]
def t_moment_of : Slim.S := (.cons (.exp (.call "check_arrivals" none (.cons (.var 0) (.cons (.var 1) .nil)))) (.cons (.ife (.not (.call "is_from_zero" none (.cons (.var 2) .nil))) (.cons .fail .nil) .nil) (.cons (.asgt (.tp (.cons (.nm 3) (.cons (.nm 4) .nil))) (.call "tags_and_legs" none (.cons (.var 0) (.cons (.var 1) .nil)))) (.cons (.ret (.call "moment_at" none (.cons (.var 4) (.cons (.var 2) .nil)))) .nil))))
def n_arrived : List Str := ["arrivals", "moment", "number", "whole", "_"]
def t_arrived : Slim.S := (.cons (.ret (.comp [2, 3, 4, 4] (.tp (.cons (.nm 2) (.cons (.tp (.cons (.nm 3) (.cons (.nm 4) (.cons (.nm 4) .nil)))) .nil))) (.enm (.cons (.var 0) .nil)) (.not (.call "is_below" none (.cons (.var 1) (.cons (.tup (.cons (.var 3) (.cons (.lit (.int 1)) .nil))) .nil)))) (.var 2))) .nil)
def n_begun : List Str := ["tags", "value", "numbers", "number"]
def t_begun : Slim.S := (.cons (.ret (.comp [3] (.nm 3) (.cons (.var 2) .nil) (.not (.call "is_below" none (.cons (.var 1) (.cons (.idx (.idx (.var 0) (.var 3)) (.lit (.int 0))) .nil)))) (.var 3))) .nil)
def n_eligible : List Str := ["weights", "arrivals", "moment", "tags", "legs"]
def t_eligible : Slim.S := (.cons (.exp (.call "check_arrivals" none (.cons (.var 0) (.cons (.var 1) .nil)))) (.cons (.exp (.call "check_moment" none (.cons (.var 2) .nil))) (.cons (.asgt (.tp (.cons (.nm 3) (.cons (.nm 4) .nil))) (.call "tags_and_legs" none (.cons (.var 0) (.cons (.var 1) .nil)))) (.cons (.ret (.blt .tuple (.cons (.call "begun" none (.cons (.var 3) (.cons (.call "clock_at" none (.cons (.var 4) (.cons (.var 2) .nil))) (.cons (.call "arrived" none (.cons (.var 1) (.cons (.var 2) .nil))) .nil)))) .nil))) .nil))))
def n_ideal_ends : List Str := ["weights", "arrivals", "tags", "legs", "_", "end"]
def t_ideal_ends : Slim.S := (.cons (.exp (.call "check_arrivals" none (.cons (.var 0) (.cons (.var 1) .nil)))) (.cons (.asgt (.tp (.cons (.nm 2) (.cons (.nm 3) .nil))) (.call "tags_and_legs" none (.cons (.var 0) (.cons (.var 1) .nil)))) (.cons (.ret (.blt .tuple (.cons (.comp [4, 5] (.tp (.cons (.nm 4) (.cons (.nm 5) .nil))) (.cons (.var 2) .nil) (.lit (.bool true)) (.call "moment_at" none (.cons (.var 3) (.cons (.var 5) .nil)))) .nil))) .nil)))
def n__law_reached : List Str := ["weights", "line", "flow", "many", "begin", "end", "waiting", "total", "given", "lack", "moment"]
def t__law_reached : Slim.S := (.cons (.for_ (.tp (.cons (.nm 4) (.cons (.nm 5) (.cons (.nm 6) (.cons (.nm 7) (.cons (.nm 8) .nil)))))) (.cons (.idx (.var 1) (.lit (.int 0))) .nil) (.cons (.ife (.cmp .isin (.var 2) (.var 6)) (.cons (.asg 9 (.call "_law_minus" none (.cons (.tup (.cons (.var 3) (.cons (.lit (.int 1)) .nil))) (.cons (.idx (.var 8) (.var 2)) .nil)))) (.cons (.asg 10 (.call "_law_plus" none (.cons (.var 4) (.cons (.call "_law_times" none (.cons (.var 9) (.cons (.var 7) (.cons (.idx (.var 0) (.var 2)) .nil)))) .nil)))) (.cons (.ife (.not (.call "_law_less" none (.cons (.var 5) (.cons (.var 10) .nil)))) (.cons (.ret (.var 10)) .nil) .nil) .nil))) .nil) .nil)) (.cons (.ret (.lit .none)) .nil))
def n__law_ends : List Str := ["weights", "arrivals", "line", "sums", "found", "moment", "flow", "length"]
def t__law_ends : Slim.S := (.cons (.par [3, 4] (.cons (.bin .mul (.lst (.cons (.lit (.int 0)) .nil)) (.blt .len (.cons (.var 0) .nil))) (.cons (.lst .nil) .nil))) (.cons (.for_ (.tp (.cons (.nm 5) (.cons (.nm 6) (.cons (.nm 7) .nil)))) (.cons (.var 1) .nil) (.cons (.set 3 (.var 6) (.bin .add (.idx (.var 3) (.var 6)) (.var 7))) (.cons (.app 4 (.call "_law_reached" none (.cons (.var 0) (.cons (.var 2) (.cons (.var 6) (.cons (.idx (.var 3) (.var 6)) .nil)))))) .nil))) (.cons (.ret (.blt .tuple (.cons (.var 4) .nil))) .nil)))
def n__law_clock : List Str := ["line", "moment", "found", "begin", "end", "waiting", "total", "given", "until"]
def t__law_clock : Slim.S := (.cons (.asg 2 (.tup (.cons (.lit (.int 0)) (.cons (.lit (.int 1)) .nil)))) (.cons (.for_ (.tp (.cons (.nm 3) (.cons (.nm 4) (.cons (.nm 5) (.cons (.nm 6) (.cons (.nm 7) .nil)))))) (.cons (.idx (.var 0) (.lit (.int 0))) .nil) (.cons (.ife (.call "_law_less" none (.cons (.var 3) (.cons (.var 1) .nil))) (.cons (.asg 8 (.ite (.call "_law_less" none (.cons (.var 1) (.cons (.var 4) .nil))) (.var 1) (.var 4))) (.cons (.asg 2 (.call "_law_plus" none (.cons (.var 2) (.cons (.call "_law_times" none (.cons (.call "_law_minus" none (.cons (.var 8) (.cons (.var 3) .nil))) (.cons (.lit (.int 1)) (.cons (.var 6) .nil)))) .nil)))) .nil)) .nil) .nil)) (.cons (.ret (.var 2)) .nil)))
def n__law_is_told : List Str := ["deck", "weights", "arrivals", "at", "begin", "end", "pair", "moment", "before"]
def t__law_is_told : Slim.S := (.cons (.ife (.not (.call "_law_same" none (.cons (.tup (.cons (.call "moment_of" none (.cons (.var 1) (.cons (.var 2) (.cons (.idx (.var 6) (.lit (.int 1))) .nil)))) (.cons (.call "clock" none (.cons (.var 1) (.cons (.var 2) (.cons (.var 5) .nil)))) .nil))) (.cons (.tup (.cons (.var 5) (.cons (.idx (.var 6) (.lit (.int 1))) .nil))) .nil)))) (.cons (.ret (.lit (.bool false))) .nil) .nil) (.cons (.ife (.not (.call "_law_same" none (.cons (.callk "clock" ["moment", "arrivals", "weights"] [2, 1, 0] (.cons (.var 4) (.cons (.var 2) (.cons (.var 1) .nil)))) (.cons (.idx (.var 6) (.lit (.int 0))) .nil)))) (.cons (.ret (.lit (.bool false))) .nil) .nil) (.cons (.for_ (.nm 7) (.cons (.tup (.cons (.var 4) (.cons (.var 5) (.cons (.call "_law_plus" none (.cons (.var 5) (.cons (.tup (.cons (.lit (.int 1)) (.cons (.bin .add (.lit (.int 1)) (.call "_law_draw" (some 0) (.cons (.lit (.int 2)) .nil))) .nil))) .nil))) .nil)))) .nil) (.cons (.ife (.cmp .notin (.var 3) (.call "eligible" none (.cons (.var 1) (.cons (.var 2) (.cons (.var 7) .nil))))) (.cons (.ret (.lit (.bool false))) .nil) .nil) .nil)) (.cons (.ife (.cmp .gt (.idx (.var 4) (.lit (.int 0))) (.lit (.int 0))) (.cons (.asg 8 (.call "_law_minus" none (.cons (.var 4) (.cons (.call "_law_times" none (.cons (.var 4) (.cons (.lit (.int 1)) (.cons (.bin .add (.lit (.int 2)) (.call "_law_draw" (some 0) (.cons (.lit (.int 60)) .nil))) .nil)))) .nil)))) (.cons (.ife (.and (.cons (.cmp .le (.idx (.var 4) (.lit (.int 1))) (.bin .pow (.lit (.int 10)) (.lit (.int 60)))) (.cons (.cmp .eq (.call "_law_draw" (some 0) (.cons (.lit (.int 2)) .nil)) (.lit (.int 0))) .nil))) (.cons (.asg 8 (.call "_law_minus" none (.cons (.var 4) (.cons (.tup (.cons (.lit (.int 1)) (.cons (.bin .pow (.lit (.int 10)) (.lit (.int 30))) .nil))) .nil)))) .nil) .nil) (.cons (.ife (.cmp .isin (.var 3) (.callk "eligible" ["moment", "arrivals", "weights"] [2, 1, 0] (.cons (.var 8) (.cons (.var 2) (.cons (.var 1) .nil))))) (.cons (.ret (.lit (.bool false))) .nil) .nil) (.cons (.ife (.and (.cons (.cmp .ge (.idx (.var 8) (.lit (.int 0))) (.bin .mul (.idx (.idx (.var 2) (.var 3)) (.lit (.int 0))) (.idx (.var 8) (.lit (.int 1))))) (.cons (.not (.call "_law_less" none (.cons (.call "clock" none (.cons (.var 1) (.cons (.var 2) (.cons (.var 8) .nil)))) (.cons (.idx (.var 6) (.lit (.int 0))) .nil)))) .nil))) (.cons (.ret (.lit (.bool false))) .nil) .nil) .nil)))) .nil) (.cons (.ret (.lit (.bool true))) .nil)))))
end Law

set_option Elab.async false
set_option linter.all false
set_option maxRecDepth 100000
set_option maxHeartbeats 4000000
/-! N0: what is said of data and of runs in general. -/
namespace Law
open PySem PySem.Spec PyProof.Rows L2 Slim

section
variable {S : GS}
def pureF (n : Nat) (φ : List Slim.D → Option Slim.D) : FSpec S := ⟨false, n, fun ds g => match φ ds with
  | some d => .ok d g
  | none => .no⟩
theorem pure_ok {T : Tab S} {n len fuel : Nat} {m : Slim.S} {φ : List Slim.D → Option Slim.D} (h : ∀ ds g d, ds.length = n → φ ds = some d → runF T false len fuel m ds g = .ok d g) :
    ∀ ds g, ds.length = (pureF (S := S) n φ).n → (pureF (S := S) n φ).f ds g = .no ∨ runF T (pureF (S := S) n φ).dk len fuel m ds g = (pureF (S := S) n φ).f ds g := fun ds g hl => by
  cases e : φ ds with
  | none => left; simp only [pureF, e]
  | some d => right; simp only [pureF, e]; exact h ds g d hl e
def isWh : Slim.D → Bool
  | .int _ => true
  | _ => false
def φ_is_whole : List Slim.D → Option Slim.D
  | [d] => some (.bool (isWh d))
  | _ => none
theorem r_is_whole (T : Tab S) (fuel : Nat) : ∀ ds g d, ds.length = 1 → φ_is_whole ds = some d → runF T false 1 fuel t_is_whole ds g = .ok d g := by
  intro ds g d hl e
  match ds, hl, e with
  | [x], _, e =>
    cases e
    cases x <;> rfl
def φ_fraction : List Slim.D → Option Slim.D
  | [.int a, .int b] => if 0 < b ∧ (Nat.gcd a.natAbs b.natAbs).log2 < 9000 then some (.tuple [.int (a / (Nat.gcd a.natAbs b.natAbs : Nat)), .int (b / (Nat.gcd a.natAbs b.natAbs : Nat))]) else none
  | _ => none
theorem r_fraction (T : Tab S) (fuel : Nat) : ∀ ds g d, ds.length = 2 → φ_fraction ds = some d → runF T false 3 fuel t_fraction ds g = .ok d g := by
  intro ds g d hl e
  unfold φ_fraction at e
  split at e
  · rename_i a b
    split at e
    · rename_i h
      cases e
      have hg : (0 : Int) < ((Nat.gcd a.natAbs b.natAbs : Nat) : Int) := by
        have := Nat.gcd_pos_of_pos_right a.natAbs (show 0 < b.natAbs by omega)
        omega
      have hl : ((Nat.gcd a.natAbs b.natAbs : Nat) : Int).natAbs.log2 < 9000 := by
        rw [Int.natAbs_natCast]; exact h.2
      unfold runF t_fraction
      show outR (run T fuel _ [.dat (.int a), .dat (.int b), .un] g) = _
      generalize hq : ((Nat.gcd a.natAbs b.natAbs : Nat) : Int) = q at hg hl
      simp only [Slim.run, Slim.Out.seq, Slim.evV, Slim.testV, Slim.ev, Slim.evs, Slim.Res.bind, Slim.Res.of, Slim.Res.out, Slim.lI, Slim.a1, Slim.a2, Slim.rds, Slim.view, Slim.viewAt, Slim.getD, List.append_nil, List.nil_append, List.cons_append, List.getElem?_cons_zero, List.getElem?_cons_succ, Slim.bop, Slim.add_i, Slim.blt, Slim.un, Slim.bi, Slim.intD, Option.map_some, Option.bind_some, Slim.tru, Slim.asgS, Slim.isNew, Slim.aft, Slim.noMut, List.set_cons_zero, List.set_cons_succ, Bool.false_eq_true, if_false, if_true, Slim.cop, Slim.ltI, Slim.max2D, gcdD, hq, fdiv_p hg hl, outR, List.length_cons, List.length_nil]
      rfl
    · cases e
  · cases e
theorem plain_int (i : Int) : PyData.plain (.int i) = true := by rw [PyData.plain]
theorem depth_int (i : Int) : PyData.depth (.int i) = 0 := by rw [PyData.depth]
theorem eqD_int (i j : Int) : eqD (.int i) (.int j) = some (decide (i = j)) := by
  unfold eqD eqOk
  rw [plain_int, plain_int, depth_int]
  simp only [Bool.and_self, Nat.zero_min, Nat.min_zero, Nat.zero_le, decide_true, Bool.and_true, if_true, PyData.eqv]
  congr 1
theorem bools_map {α : Type} (f : α → Bool) : ∀ xs : List α, boolsOf (xs.map fun d => .bool (f d)) = some (xs.map f)
  | [] => rfl
  | x :: xs => by simp only [List.map_cons, boolsOf, bools_map f xs, Option.map_some]
theorem fm_some {α β : Type} (f : α → β) : ∀ xs : List α, xs.filterMap (fun x => some (f x)) = xs.map f
  | [] => rfl
  | x :: xs => by simp only [List.filterMap_cons, List.map_cons, fm_some f xs]

/-- a comprehension whose parts keep the state -/
theorem ev_comp {T : Tab S} {own : List Nat} {tg : Tg} {it c el : Slim.E} {τ : Sl} {g g1 : S.G} {items : List Slim.D} {φ : Slim.D → Option Slim.D} (h1 : evi S T it τ g = .ok items g1) (hl : items.length < lim)
    (hf : ∀ d ∈ items, ∃ τ' x b, bindT tg d (wipeS τ own) = some τ' ∧ ev S T c τ' g1 = .ok x g1 ∧ tru x = some b ∧ ((b = true ∧ ∃ y, ev S T el τ' g1 = .ok y g1 ∧ φ d = some y) ∨ (b = false ∧ φ d = none))) :
    ev S T (.comp own tg it c el) τ g = .ok (.list (items.filterMap φ)) g1 := by
  simp only [ev, h1, Res.bind, hl, if_true]
  rw [compGo_pure (φ := φ)]
  · rfl
  · intro d hd
    obtain ⟨τ', x, b, e1, e2, e3, e4⟩ := hf d hd
    rcases e4 with ⟨rfl, y, e5, e6⟩ | ⟨rfl, e6⟩
    · simp only [e1, e2, e3, e5, e6]
    · simp only [e1, e2, e3, e6]
theorem int_eqv (i j : Int) : PyData.eqv (.int i) (.int j) = decide (i = j) := by
  rw [PyData.eqv]
  by_cases h : i = j
  · subst h; simp
  · simp [h]
theorem eqvAll_ints : ∀ ms ns : List Int, PyData.eqvAll (ms.map .int) (ns.map .int) = decide (ms = ns)
  | [], [] => by rw [List.map_nil, PyData.eqvAll]; rfl
  | [], n :: ns => by rw [List.map_nil, List.map_cons, PyData.eqvAll]; rfl; all_goals simp
  | m :: ms, [] => by rw [List.map_nil, List.map_cons, PyData.eqvAll]; rfl; all_goals simp
  | m :: ms, n :: ns => by
    rw [List.map_cons, List.map_cons, PyData.eqvAll, int_eqv, eqvAll_ints ms ns]
    by_cases h1 : m = n <;> by_cases h2 : ms = ns <;> simp [h1, h2]
theorem depthAll_ints : ∀ ms : List Int, PyData.depthAll (ms.map PyData.int) = 0
  | [] => by rw [List.map_nil, PyData.depthAll]
  | m :: ms => by rw [List.map_cons, PyData.depthAll, depth_int, depthAll_ints ms]; rfl
theorem eqD_ints (ms ns : List Int) : eqD (.list (ms.map .int)) (.list (ns.map .int)) = some (decide (ms = ns)) := by
  have h1 : eqOk (.list (ms.map .int)) (.list (ns.map .int)) = true := by
    unfold eqOk
    have p : ∀ ms : List Int, PyData.plain (.list (ms.map .int)) = true := fun ms => by rw [PyData.plain]; exact plain_ints ms
    rw [p, p]
    have d : ∀ ms : List Int, PyData.depth (.list (ms.map .int)) = 1 := fun ms => by rw [PyData.depth, depthAll_ints]
    rw [d, d]
    rfl
  unfold eqD
  rw [if_pos h1, PyData.eqv, eqvAll_ints]
theorem ints_map : ∀ ms : List Int, intsOf (ms.map .int) = some ms
  | [] => rfl
  | m :: ms => by simp only [List.map_cons, intsOf, ints_map ms, Option.map_some]
def maxOr (ns : List Int) : Int := match maxI ns with
  | some n => n
  | none => 0
theorem fm_map {α β γ : Type} (f : α → Option β) (h : β → γ) : ∀ xs : List α, xs.filterMap (fun x => (f x).map h) = (xs.filterMap f).map h
  | [] => rfl
  | x :: xs => by
    simp only [List.filterMap_cons, fm_map f h xs]
    cases f x <;> rfl
end
section
variable {S : GS}
theorem same_run (T : Tab S) (fuel : Nat) (a b : Slim.D) (g : S.G) (h1 : showOk a = true) (h2 : showOk b = true) (hl : ∀ x y : Str, eqD (.str x) (.str y) = some (decide (x = y))) :
    runF T false 2 fuel t__law_same [a, b] g = .ok (.bool (decide (a.shown = b.shown))) g := by
  unfold runF t__law_same
  show outR (Slim.run T fuel _ [.dat a, .dat b] g) = _
  simp only [Slim.run, Slim.Out.seq, Slim.evV, Slim.testV, Slim.ev, Slim.evs, Slim.Res.bind, Slim.Res.of, Slim.Res.out, Slim.lI, Slim.a1, Slim.a2, Slim.rds, Slim.view, Slim.viewAt, Slim.getD, List.append_nil, List.nil_append, List.cons_append, List.getElem?_cons_zero, List.getElem?_cons_succ, Slim.bop, Slim.add_i, Slim.blt, Slim.un, Slim.bi, Slim.intD, Option.map_some, Option.bind_some, Slim.tru, Slim.asgS, Slim.isNew, Slim.aft, Slim.noMut, List.set_cons_zero, List.set_cons_succ, Bool.false_eq_true, if_false, if_true, Slim.cop, Slim.ltI, Slim.max2D, reprD, h1, h2, hl, outR]
theorem eqD_str (x y : Str) : eqD (.str x) (.str y) = some (decide (x = y)) := by
  unfold eqD eqOk
  have p : ∀ x : Str, PyData.plain (.str x) = true := fun x => by rw [PyData.plain]
  have d : ∀ x : Str, PyData.depth (.str x) = 0 := fun x => by rw [PyData.depth]
  rw [p, p, d, d, PyData.eqv]
  have e : (x == y) = decide (x = y) := Bool.eq_iff_iff.mpr (by simp)
  simp [e]

/-- Euclid's rest -/
theorem common_go (T : Tab S) (n : Nat) (g : S.G) : ∀ (fuel : Nat) (a b : Int), 0 ≤ a → 0 ≤ b → b.toNat < fuel →
    ∃ q, whlGo (fun τ g => testV T (.cmp .gt (.var 1) (.lit (.int 0))) τ g) (fun τ g => Slim.run T n (.cons (.par [0, 1] (.cons (.var 1) (.cons (.bin .mod (.blt .int (.cons (.var 0) .nil)) (.var 1)) .nil))) .nil) τ g) fuel [.dat (.int a), .dat (.int b)] g = .nx [.dat (.int ((Nat.gcd a.natAbs b.natAbs : Nat) : Int)), q] g
  | 0, a, b, _, _, h => by omega
  | fuel + 1, a, b, ha, hb, h => by
    simp only [whlGo]
    by_cases hz : (0 : Int) < b
    · have e1 : testV T (.cmp .gt (.var 1) (.lit (.int 0))) [.dat (.int a), .dat (.int b)] g = .ok true g := by
        simp only [Slim.run, Slim.Out.seq, Slim.evV, Slim.testV, Slim.ev, Slim.evs, Slim.Res.bind, Slim.Res.of, Slim.Res.out, Slim.lI, Slim.a1, Slim.a2, Slim.rds, Slim.view, Slim.viewAt, Slim.getD, List.append_nil, List.nil_append, List.cons_append, List.getElem?_cons_zero, List.getElem?_cons_succ, Slim.bop, Slim.add_i, Slim.blt, Slim.un, Slim.bi, Slim.intD, Option.map_some, Option.bind_some, Slim.tru, Slim.asgS, Slim.isNew, Slim.aft, Slim.noMut, List.set_cons_zero, List.set_cons_succ, Bool.false_eq_true, if_false, if_true, Slim.cop, Slim.ltI, Slim.max2D, hz, decide_true]
      have e2 : Slim.run T n (.cons (.par [0, 1] (.cons (.var 1) (.cons (.bin .mod (.blt .int (.cons (.var 0) .nil)) (.var 1)) .nil))) .nil) [.dat (.int a), .dat (.int b)] g = .nx [.dat (.int b), .dat (.int (a % b))] g := by
        simp only [Slim.run, Slim.Out.seq, Slim.evV, Slim.testV, Slim.ev, Slim.evs, Slim.Res.bind, Slim.Res.of, Slim.Res.out, Slim.lI, Slim.a1, Slim.a2, Slim.rds, Slim.view, Slim.viewAt, Slim.getD, List.append_nil, List.nil_append, List.cons_append, List.getElem?_cons_zero, List.getElem?_cons_succ, Slim.bop, Slim.add_i, Slim.blt, Slim.un, Slim.bi, Slim.intD, Option.map_some, Option.bind_some, Slim.tru, Slim.asgS, Slim.isNew, Slim.aft, Slim.noMut, List.set_cons_zero, List.set_cons_succ, Bool.false_eq_true, if_false, if_true, Slim.cop, Slim.ltI, Slim.max2D, mod_p hz, List.length_cons, List.length_nil, svsOf, svOf, mutsOk, mutOk, putS, Bool.and_self, List.cons_append]
      obtain ⟨q, hq⟩ := common_go T n g fuel b (a % b) hb (Int.emod_nonneg _ (by omega)) (by
        have := Int.emod_lt_of_pos a hz
        have := Int.emod_nonneg a (show b ≠ 0 by omega)
        omega)
      refine ⟨q, ?_⟩
      rw [e1]
      simp only [Res.out, if_true, e2]
      rw [hq]
      have : Nat.gcd b.natAbs (a % b).natAbs = Nat.gcd a.natAbs b.natAbs := by
        rw [Int.natAbs_emod_of_nonneg ha, Nat.gcd_comm b.natAbs, ← Nat.gcd_rec, Nat.gcd_comm]
      rw [this]
    · have hb0 : b = 0 := by omega
      subst hb0
      have e1 : testV T (.cmp .gt (.var 1) (.lit (.int 0))) [.dat (.int a), .dat (.int 0)] g = .ok false g := by
        simp only [Slim.run, Slim.Out.seq, Slim.evV, Slim.testV, Slim.ev, Slim.evs, Slim.Res.bind, Slim.Res.of, Slim.Res.out, Slim.lI, Slim.a1, Slim.a2, Slim.rds, Slim.view, Slim.viewAt, Slim.getD, List.append_nil, List.nil_append, List.cons_append, List.getElem?_cons_zero, List.getElem?_cons_succ, Slim.bop, Slim.add_i, Slim.blt, Slim.un, Slim.bi, Slim.intD, Option.map_some, Option.bind_some, Slim.tru, Slim.asgS, Slim.isNew, Slim.aft, Slim.noMut, List.set_cons_zero, List.set_cons_succ, Bool.false_eq_true, if_false, if_true, Slim.cop, Slim.ltI, Slim.max2D, hz, decide_false]
      refine ⟨.dat (.int 0), ?_⟩
      rw [e1]
      simp only [Res.out, Bool.false_eq_true, if_false]
      have : ((Nat.gcd a.natAbs (0 : Int).natAbs : Nat) : Int) = a := by
        rw [Int.natAbs_zero, Nat.gcd_zero_right]; omega
      rw [this]
theorem common_run (T : Tab S) (fuel : Nat) (g : S.G) {a b : Int} (ha : 0 ≤ a) (hb : 0 ≤ b) (hf : b.toNat < fuel) : runF T false 2 fuel t__law_common [.int a, .int b] g = .ok (.int ((Nat.gcd a.natAbs b.natAbs : Nat) : Int)) g := by
  obtain ⟨q, hq⟩ := common_go T fuel g fuel a b ha hb hf
  unfold runF t__law_common
  show outR (Slim.run T fuel _ [.dat (.int a), .dat (.int b)] g) = _
  have s1 : Slim.run T fuel (.whl (.cmp .gt (.var 1) (.lit (.int 0))) (.cons (.par [0, 1] (.cons (.var 1) (.cons (.bin .mod (.blt .int (.cons (.var 0) .nil)) (.var 1)) .nil))) .nil)) [.dat (.int a), .dat (.int b)] g = .nx [.dat (.int ((Nat.gcd a.natAbs b.natAbs : Nat) : Int)), q] g := by
    rw [Slim.run]
    exact hq
  rw [run_cons s1]
  cases q <;> (simp only [Slim.run, Slim.Out.seq, Slim.evV, Slim.testV, Slim.ev, Slim.evs, Slim.Res.bind, Slim.Res.of, Slim.Res.out, Slim.lI, Slim.a1, Slim.a2, Slim.rds, Slim.view, Slim.viewAt, Slim.getD, List.append_nil, List.nil_append, List.cons_append, List.getElem?_cons_zero, List.getElem?_cons_succ, Slim.bop, Slim.add_i, Slim.blt, Slim.un, Slim.bi, Slim.intD, Option.map_some, Option.bind_some, Slim.tru, Slim.asgS, Slim.isNew, Slim.aft, Slim.noMut, List.set_cons_zero, List.set_cons_succ, Bool.false_eq_true, if_false, if_true, Slim.cop, Slim.ltI, Slim.max2D, outR])
end
section
variable {D : DK} {K : PySem.W.Frag} (c : DC)
theorem draw_range (many : Int) (g : DG) (h : 0 < many) : 0 ≤ (drawG c many g).1 ∧ (drawG c many g).1 < many := by
  have r : ∀ x : Int, 0 ≤ x % many ∧ x % many < many := fun x => ⟨Int.emod_nonneg _ (by omega), Int.emod_lt_of_pos _ h⟩
  unfold drawG
  simp only
  split
  · exact r _
  · split
    · exact r _
    · exact r _
theorem draw_left (many : Int) (g : DG) : (drawG c many g).2.left.length ≤ g.left.length := by
  unfold drawG
  simp only
  split
  · exact Nat.le_refl _
  · rename_i cell hl
    have : 0 < g.left.length := by
      cases e : g.left with
      | nil => rw [e] at hl; cases hl
      | cons _ _ => simp
    split
    · rw [List.length_append, List.length_dropLast, List.length_singleton]; omega
    · rw [List.length_dropLast]; omega
end
section
variable {S : GS}

/-- a comprehension whose parts draw: an invariant of the state, a property of each item -/
theorem compGo_inv {f : Slim.D → S.G → Res S (Option Slim.D)} {I : S.G → Prop} {P : Slim.D → Prop} : ∀ {ds : List Slim.D} {g : S.G}, I g → (∀ d ∈ ds, ∀ g, I g → ∃ y g', f d g = .ok (some y) g' ∧ P y ∧ I g') →
    ∃ ys g', compGo f ds g = .ok ys g' ∧ ys.length = ds.length ∧ (∀ y ∈ ys, P y) ∧ I g'
  | [], g, h, _ => ⟨[], g, rfl, rfl, fun _ h => (List.not_mem_nil h).elim, h⟩
  | d :: ds, g, h, hf => by
    obtain ⟨y, g1, e1, p1, i1⟩ := hf d (List.mem_cons_self ..) g h
    obtain ⟨ys, g2, e2, l2, p2, i2⟩ := compGo_inv (f := f) (I := I) (P := P) (ds := ds) i1 fun e he => hf e (List.mem_cons_of_mem _ he)
    refine ⟨y :: ys, g2, ?_, by rw [List.length_cons, List.length_cons, l2], fun z hz => ?_, i2⟩
    · simp only [compGo, e1, Res.bind, e2]
    · rcases List.mem_cons.mp hz with rfl | hz
      · exact p1
      · exact p2 z hz
theorem ev_comp_inv {T : Tab S} {own : List Nat} {tg : Tg} {it c el : Slim.E} {τ : Sl} {g g1 : S.G} {items : List Slim.D} {I : S.G → Prop} {P : Slim.D → Prop} (h1 : evi S T it τ g = .ok items g1) (hi : I g1) (hl : items.length < lim)
    (hf : ∀ d ∈ items, ∀ g, I g → ∃ τ' x y g', bindT tg d (wipeS τ own) = some τ' ∧ ev S T c τ' g = .ok x g ∧ tru x = some true ∧ ev S T el τ' g = .ok y g' ∧ P y ∧ I g') :
    ∃ ys g', ev S T (.comp own tg it c el) τ g = .ok (.list ys) g' ∧ ys.length = items.length ∧ (∀ y ∈ ys, P y) ∧ I g' := by
  simp only [ev, h1, Res.bind, hl, if_true]
  have := compGo_inv (S := S) (I := I) (P := P) (ds := items) (g := g1) (f := fun d g => match bindT tg d (wipeS τ own) with
    | none => .no
    | some τ' => (ev S T c τ' g).bind fun x g => match tru x with
      | some true => (ev S T el τ' g).bind fun y g => .ok (some y) g
      | some false => .ok none g
      | none => .no) hi fun d hd g hg => by
    obtain ⟨τ', x, y, g', e1, e2, e3, e4, p, i⟩ := hf d hd g hg
    exact ⟨y, g', by simp only [e1, e2, e3, e4, Res.bind], p, i⟩
  obtain ⟨ys, g', e, l, p, i⟩ := this
  refine ⟨ys, g', ?_, l, p, i⟩
  erw [e]
  rfl
end
def few (g : DG) : Prop := g.left.length ≤ 1000
def okW (ws : List Int) : Prop := ws ≠ [] ∧ ws.length ≤ 8 ∧ ∀ w ∈ ws, 1 ≤ w ∧ w ≤ 12
abbrev P3 := Int × Int × Int
def pk (p : P3) : Slim.D := .tuple [.int p.1, .int p.2.1, .int p.2.2]
def okP (nf : Nat) (p : P3) : Prop := 0 ≤ p.1 ∧ (0 ≤ p.2.1 ∧ p.2.1 < nf) ∧ 1 ≤ p.2.2 ∧ p.2.2 ≤ 60
structure okA (nf : Nat) (ps : List P3) : Prop where
  each : ∀ p ∈ ps, okP nf p
  asc : (ps.map (·.1)).Pairwise (· ≤ ·)
  len : ps.length ≤ 30
  mom : ∀ p ∈ ps, p.1 ≤ 2000
structure invA (nf : Nat) (ps : List P3) (m : Int) : Prop where
  each : ∀ p ∈ ps, okP nf p
  asc : (ps.map (·.1)).Pairwise (· ≤ ·)
  top : ∀ p ∈ ps, p.1 ≤ m
  pos : 0 ≤ m
  bnd : m ≤ 200 + 60 * ps.length
theorem invA.add {nf : Nat} {ps : List P3} {m m' : Int} (h : invA nf ps m) (h1 : m ≤ m') (h2 : m' ≤ m + 60) {f l : Int} (hf : 0 ≤ f ∧ f < nf) (hl : 1 ≤ l ∧ l ≤ 60) : invA nf (ps ++ [(m', f, l)]) m' where
  each := fun p hp => by
    rcases List.mem_append.mp hp with hp | hp
    · exact h.each p hp
    · rw [List.mem_singleton] at hp
      subst hp
      have := h.pos
      exact ⟨by show 0 ≤ m'; omega, hf, hl⟩
  asc := by
    rw [List.map_append, List.pairwise_append]
    refine ⟨h.asc, by simp, fun a ha b hb => ?_⟩
    obtain ⟨p, hp, rfl⟩ := List.mem_map.mp ha
    simp only [List.map_cons, List.map_nil, List.mem_singleton] at hb
    have := h.top p hp
    omega
  top := fun p hp => by
    rcases List.mem_append.mp hp with hp | hp
    · have := h.top p hp; omega
    · rw [List.mem_singleton] at hp
      subst hp
      exact Int.le_refl _
  pos := by have := h.pos; omega
  bnd := by have := h.bnd; rw [List.length_append, List.length_singleton]; omega


abbrev wD (ws : List Int) : Slim.D := .tuple (ws.map PyData.int)
abbrev pD (ps : List P3) : Slim.D := .tuple (ps.map pk)
theorem okW.sum {ws : List Int} (h : okW ws) : 1 ≤ ws.sum ∧ ws.sum ≤ 96 := by
  obtain ⟨h1, h2, h3⟩ := h
  have key : ∀ ws : List Int, (∀ w ∈ ws, 1 ≤ w ∧ w ≤ 12) → (ws.length : Int) ≤ ws.sum ∧ ws.sum ≤ 12 * ws.length := fun ws => by
    induction ws with
    | nil => intro _; simp
    | cons w ws ih =>
      intro h
      have a := h w (List.mem_cons_self ..)
      have b := ih fun x hx => h x (List.mem_cons_of_mem _ hx)
      rw [List.sum_cons, List.length_cons]
      omega
  have := key ws h3
  have := List.length_pos_iff.mpr h1
  omega
theorem lt_lim {n : Nat} (h : n ≤ 1000) : n < lim := by unfold lim; omega
def lensF (f : Int) (ps : List P3) : List Int := ps.filterMap fun p => if p.2.1 = f then some p.2.2 else none
def ratio (a b : Int) : Slim.D := .tuple [.int (a / (Nat.gcd a.natAbs b.natAbs : Nat)), .int (b / (Nat.gcd a.natAbs b.natAbs : Nat))]
theorem gcd_log {a b : Int} (hb : 0 < b) (h2 : b < 2 ^ 60) : (Nat.gcd a.natAbs b.natAbs).log2 < 9000 := by
  have h3 : Nat.gcd a.natAbs b.natAbs ≤ b.natAbs := Nat.le_of_dvd (by omega) (Nat.gcd_dvd_right _ _)
  have h5 := Nat.gcd_pos_of_pos_right a.natAbs (show 0 < b.natAbs by omega)
  have h4 : Nat.gcd a.natAbs b.natAbs < 2 ^ 60 := by omega
  have := (Nat.log2_lt (by omega : Nat.gcd a.natAbs b.natAbs ≠ 0)).mpr h4
  omega
theorem φ_fraction_eq {a b : Int} (hb : 0 < b) (h2 : b < 2 ^ 60) : φ_fraction [.int a, .int b] = some (ratio a b) := by
  unfold φ_fraction
  simp only [hb, gcd_log hb h2, and_self, if_true]
  rfl
theorem idx_w {ws : List Int} {k : Nat} {w : Int} (h : ws[k]? = some w) : idxD (wD ws) (.int (k : Nat)) = some (.int w) := by
  have hk : k < ws.length := by
    rcases Nat.lt_or_ge k ws.length with h1 | h1
    · exact h1
    · rw [List.getElem?_eq_none h1] at h; cases h
  unfold idxD atI ixN
  have : ((k : Nat) : Int) < ((ws.map PyData.int).length : Nat) := by rw [List.length_map]; omega
  simp only [Int.natCast_nonneg, this, if_true, Int.toNat_natCast, Option.bind_some, List.getElem?_map, h, Option.map_some]
def φ_same : List Slim.D → Option Slim.D
  | [a, b] => if showOk a = true ∧ showOk b = true then some (.bool (decide (a.shown = b.shown))) else none
  | _ => none
theorem r_same {S : GS} (T : Tab S) (fuel : Nat) : ∀ ds g d, ds.length = 2 → φ_same ds = some d → runF T false 2 fuel t__law_same ds g = .ok d g := by
  intro ds g d hl e
  match ds, hl with
  | [a, b], _ =>
    unfold φ_same at e
    simp only at e
    split at e
    · rename_i h
      cases e
      exact same_run T fuel a b g h.1 h.2 eqD_str
    · cases e
theorem φ_same_self {d : Slim.D} (h : showOk d = true) : φ_same [d, d] = some (.bool true) := by
  unfold φ_same
  simp only [h, and_self, if_true, decide_true]
def φ_common : List Slim.D → Option Slim.D
  | [.int a, .int b] => if 0 ≤ a ∧ 0 ≤ b ∧ b < 10000 then some (.int ((Nat.gcd a.natAbs b.natAbs : Nat) : Int)) else none
  | _ => none
theorem r_common {S : GS} (T : Tab S) {fuel : Nat} (hf : 10000 ≤ fuel) : ∀ ds g d, ds.length = 2 → φ_common ds = some d → runF T false 2 fuel t__law_common ds g = .ok d g := by
  intro ds g d hl e
  unfold φ_common at e
  split at e
  · split at e
    · rename_i a b h
      cases e
      exact common_run T fuel g h.1 h.2.1 (by omega)
    · cases e
  · cases e
def φ_over : List Slim.D → Option Slim.D
  | [.int a, .int b] => if 0 ≤ a ∧ 0 < b ∧ b < 10000 then some (ratio a b) else none
  | _ => none
section
variable {S : GS}
theorem over_run (T : Tab S) {F : FSpec S} (hF : T "_law_common" = some F) (h1 : F.dk = false) (h2 : F.n = 2) (fuel : Nat) (g : S.G) {a b : Int} (ha : 0 ≤ a) (hb : 0 < b) (hb2 : b < 2 ^ 60)
    (hr : F.f [.int a, .int b] g = .ok (.int ((Nat.gcd a.natAbs b.natAbs : Nat) : Int)) g) :
    runF T false 3 fuel t__law_over [.int a, .int b] g = .ok (.tuple [.int (a / (Nat.gcd a.natAbs b.natAbs : Nat)), .int (b / (Nat.gcd a.natAbs b.natAbs : Nat))]) g := by
  have hg : (0 : Int) < ((Nat.gcd a.natAbs b.natAbs : Nat) : Int) := by
    have := Nat.gcd_pos_of_pos_right a.natAbs (show 0 < b.natAbs by omega)
    omega
  have hl : ((Nat.gcd a.natAbs b.natAbs : Nat) : Int).natAbs.log2 < 9000 := by
    rw [Int.natAbs_natCast]
    have h3 : Nat.gcd a.natAbs b.natAbs ≤ b.natAbs := Nat.le_of_dvd (by omega) (Nat.gcd_dvd_right _ _)
    have h4 : Nat.gcd a.natAbs b.natAbs < 2 ^ 60 := by omega
    have := (Nat.log2_lt (by omega : Nat.gcd a.natAbs b.natAbs ≠ 0)).mpr h4
    omega
  generalize ((Nat.gcd a.natAbs b.natAbs : Nat) : Int) = q at hg hl hr ⊢
  have habs : absD (.int a) = some (.int a) := by
    show some (PyData.int (if a < 0 then -a else a)) = _
    rw [if_neg (by omega)]
  unfold runF t__law_over
  show outR (Slim.run T fuel _ [.dat (.int a), .dat (.int b), .un] g) = _
  simp only [Slim.run, Slim.Out.seq, Slim.evV, Slim.testV, Slim.ev, Slim.evs, Slim.Res.bind, Slim.Res.of, Slim.Res.out, Slim.lI, Slim.a1, Slim.a2, Slim.rds, Slim.view, Slim.viewAt, Slim.getD, List.append_nil, List.nil_append, List.cons_append, List.getElem?_cons_zero, List.getElem?_cons_succ, Slim.bop, Slim.add_i, Slim.blt, Slim.un, Slim.bi, Slim.intD, Option.map_some, Option.bind_some, Slim.tru, Slim.asgS, Slim.isNew, Slim.aft, Slim.noMut, List.set_cons_zero, List.set_cons_succ, Bool.false_eq_true, if_false, if_true, Slim.cop, Slim.ltI, Slim.max2D, habs, hF, h1, h2, Option.isSome_none, List.length_cons, List.length_nil, Nat.zero_add, hr, fdiv_p hg hl, outR]
  rfl
end
theorem r_over {S : GS} (T : Tab S) (h1 : T "_law_common" = some (pureF 2 φ_common)) (fuel : Nat) : ∀ ds g d, ds.length = 2 → φ_over ds = some d → runF T false 3 fuel t__law_over ds g = .ok d g := by
  intro ds g d hl e
  unfold φ_over at e
  split at e
  · split at e
    · rename_i a b h
      cases e
      refine over_run T h1 rfl rfl fuel g h.1 h.2.1 (by omega) ?_
      have hb : 0 ≤ b := by omega
      simp only [pureF, φ_common, h.1, h.2.2, hb, and_self, if_true]
    · cases e
  · cases e
theorem maxOr_bnd {ns : List Int} (h : ∀ n ∈ ns, 0 ≤ n ∧ n ≤ 60) : 0 ≤ maxOr ns ∧ maxOr ns ≤ 60 := by
  have key : ∀ (ns : List Int) (a : Int), (0 ≤ a ∧ a ≤ 60) → (∀ n ∈ ns, 0 ≤ n ∧ n ≤ 60) → 0 ≤ ns.foldl max a ∧ ns.foldl max a ≤ 60 := fun ns => by
    induction ns with
    | nil => exact fun a h _ => h
    | cons n ns ih =>
      intro a ha h
      rw [List.foldl_cons]
      have := h n (List.mem_cons_self ..)
      exact ih _ (by omega) fun x hx => h x (List.mem_cons_of_mem _ hx)
  unfold maxOr maxI
  cases ns with
  | nil => exact ⟨Int.le_refl _, by decide⟩
  | cons n ns => exact key ns n (h n (List.mem_cons_self ..)) fun x hx => h x (List.mem_cons_of_mem _ hx)
theorem noMutAll_ints : ∀ ns : List Int, noMutAll (ns.map PyData.int) = true
  | [] => rfl
  | n :: ns => by rw [List.map_cons, noMutAll, noMutAll_ints ns]; rfl
theorem noMutAll_pks : ∀ ps : List P3, noMutAll (ps.map pk) = true
  | [] => rfl
  | p :: ps => by rw [List.map_cons, noMutAll, noMutAll_pks ps]; rfl
theorem noMut_w (ws : List Int) : noMut (wD ws) = true := by rw [noMut]; exact noMutAll_ints ws
theorem noMut_p (ps : List P3) : noMut (pD ps) = true := by rw [noMut]; exact noMutAll_pks ps
section
variable {S : GS}

/-- a loop whose steps keep an invariant -/
theorem forGo_inv {step : Slim.D → Sl → S.G → Out S} {I : Sl → S.G → Prop} : ∀ {items : List Slim.D} {τ : Sl} {g : S.G}, I τ g → (∀ d ∈ items, ∀ τ g, I τ g → ∃ τ' g', step d τ g = .nx τ' g' ∧ I τ' g') → ∃ τ' g', forGo step items τ g = .nx τ' g' ∧ I τ' g'
  | [], τ, g, h, _ => ⟨τ, g, rfl, h⟩
  | d :: items, τ, g, h, hs => by
    obtain ⟨τ1, g1, e1, i1⟩ := hs d (List.mem_cons_self ..) τ g h
    obtain ⟨τ2, g2, e2, i2⟩ := forGo_inv (step := step) (I := I) (items := items) i1 fun x hx => hs x (List.mem_cons_of_mem _ hx)
    exact ⟨τ2, g2, by simp only [forGo, e1, e2], i2⟩
end
theorem run_par {S : GS} {T : Tab S} {n : Nat} {is : List Nat} {as : Slim.E} {τ : Sl} {g g' : S.G} {ds : List Slim.D} {svs : List SV} (h : evs S T as (view (rds as) τ) g = .ok ds g') (hl : ds.length = is.length) (h2 : svsOf as ds = svs) (h3 : mutsOk as ds = true) :
    Slim.run T n (.par is as) τ g = .nx (putS is svs τ) g' := by
  subst h2
  simp only [Slim.run, h, Res.out, hl, if_true, h3, aft]
theorem run_asg {S : GS} {T : Tab S} {n i : Nat} {e : Slim.E} {τ τ' : Sl} {g g' : S.G} {d : Slim.D} (h : evV T e τ g = .ok d g') (h2 : asgS e i d τ = τ') : Slim.run T n (.asg i e) τ g = .nx τ' g' := by
  subst h2
  simp only [Slim.run, h, Res.out]
theorem asg_new {e : Slim.E} {i : Nat} {ds : List Slim.D} {τ : Sl} (h1 : isNew e = true) (h2 : noMutAll ds = true) : asgS e i (.list ds) τ = τ.set i (.own ds) := by
  unfold asgS
  rw [if_pos h1]
  simp only [h2, aft, if_true]
theorem asg_old {e : Slim.E} {i : Nat} {d : Slim.D} {τ : Sl} (h1 : isNew e = false) (h2 : noMut d = true) : asgS e i d τ = τ.set i (.dat d) := by
  unfold asgS
  rw [if_neg (by rw [h1]; decide)]
  simp only [h2, aft, if_true]

section
variable {D : DK} {K : PySem.W.Frag}
theorem perm2 (x y : Slim.D) : permL [1, 0] [x, y] = [y, x] := rfl
theorem perm3 (x y z : Slim.D) : permL [2, 1, 0] [x, y, z] = [z, y, x] := rfl
theorem pf_run {n : Nat} {φ : List Slim.D → Option Slim.D} {ds : List Slim.D} {d : Slim.D} (h : φ ds = some d) (g : (deckGS D K).G) : (pureF (S := deckGS D K) n φ).f ds g = .ok d g := by
  simp only [pureF, h]
theorem maxd_run (ns : List Int) : maxdD (.int 0) (.list (ns.map .int)) = some (.int (maxOr ns)) := by
  unfold maxdD maxOr
  simp only [ints_map, Option.map_some]
  cases maxI ns <;> rfl
theorem sh_60 {n : Int} (h : 0 ≤ n ∧ n ≤ 60) : Sh 0 13 (.int n) := sh_int (Nat.lt_of_le_of_lt (show n.natAbs ≤ 60 by omega) (by decide))
theorem same_ok {n : Int} (h : 0 ≤ n ∧ n ≤ 60) : φ_same [.int n, .int n] = some (.bool true) := φ_same_self ((sh_60 h).ok (by decide) (by decide))
theorem p_dk : ∀ n φ, (pureF (S := deckGS D K) n φ).dk = false := fun _ _ => rfl
theorem p_n : ∀ n φ, (pureF (S := deckGS D K) n φ).n = n := fun _ _ => rfl
theorem sh_two {k n : Nat} {d : Slim.D} (h : Sh k n d) : Sh (k + 1) (2 * (n + 2) + 3) (.tuple [d, d]) := by
  refine sh_tuple (ds := [d, d]) fun x hx => ?_
  simp only [List.mem_cons, List.not_mem_nil, or_false, or_self] at hx
  subst hx
  exact h
end
/-! comprehensions that draw, item by item -/
inductive Rel2 {α β : Type} (R : α → β → Prop) : List α → List β → Prop
  | nil : Rel2 R [] []
  | cons {a : α} {b : β} {as : List α} {bs : List β} : R a b → Rel2 R as bs → Rel2 R (a :: as) (b :: bs)
theorem Rel2.map_eq {α β γ : Type} {R : α → β → Prop} {F : α → γ} {G : β → γ} (h : ∀ a b, R a b → F a = G b) : ∀ {as : List α} {bs : List β}, Rel2 R as bs → as.map F = bs.map G
  | _, _, .nil => rfl
  | _, _, .cons x r => by rw [List.map_cons, List.map_cons, h _ _ x, Rel2.map_eq h r]
theorem Rel2.all {α β : Type} {R : α → β → Prop} {Q : β → Prop} (h : ∀ a b, R a b → Q b) : ∀ {as : List α} {bs : List β}, Rel2 R as bs → ∀ b ∈ bs, Q b
  | _, _, .nil, _, hb => (List.not_mem_nil hb).elim
  | _, _, .cons x r, b, hb => by
    rcases List.mem_cons.mp hb with rfl | hb
    · exact h _ _ x
    · exact Rel2.all h r b hb
theorem Rel2.length {α β : Type} {R : α → β → Prop} : ∀ {as : List α} {bs : List β}, Rel2 R as bs → bs.length = as.length
  | _, _, .nil => rfl
  | _, _, .cons _ r => by rw [List.length_cons, List.length_cons, Rel2.length r]
section
variable {S : GS}
theorem compGo_rel {α β : Type} {f : Slim.D → S.G → Res S (Option Slim.D)} {I : S.G → Prop} {k : α → Slim.D} {l : β → Slim.D} {R : α → β → Prop} : ∀ {as : List α} {g : S.G}, I g → (∀ a ∈ as, ∀ g, I g → ∃ b g', f (k a) g = .ok (some (l b)) g' ∧ R a b ∧ I g') →
    ∃ bs g', compGo f (as.map k) g = .ok (bs.map l) g' ∧ Rel2 R as bs ∧ I g'
  | [], g, h, _ => ⟨[], g, rfl, .nil, h⟩
  | a :: as, g, h, hf => by
    obtain ⟨b, g1, e1, r1, i1⟩ := hf a (List.mem_cons_self ..) g h
    obtain ⟨bs, g2, e2, r2, i2⟩ := compGo_rel (f := f) (I := I) (k := k) (l := l) (R := R) (as := as) i1 fun x hx => hf x (List.mem_cons_of_mem _ hx)
    refine ⟨b :: bs, g2, ?_, .cons r1 r2, i2⟩
    simp only [List.map_cons, compGo, e1, Res.bind, e2]
theorem ev_comp_rel {α β : Type} {T : Tab S} {own : List Nat} {tg : Tg} {it c el : Slim.E} {τ : Sl} {g g1 : S.G} {as : List α} {k : α → Slim.D} {l : β → Slim.D} {R : α → β → Prop} {I : S.G → Prop} (h1 : evi S T it τ g = .ok (as.map k) g1) (hi : I g1) (hl : as.length < lim)
    (hf : ∀ a ∈ as, ∀ g, I g → ∃ τ' x b g', bindT tg (k a) (wipeS τ own) = some τ' ∧ ev S T c τ' g = .ok x g ∧ tru x = some true ∧ ev S T el τ' g = .ok (l b) g' ∧ R a b ∧ I g') :
    ∃ bs g', ev S T (.comp own tg it c el) τ g = .ok (.list (bs.map l)) g' ∧ Rel2 R as bs ∧ I g' := by
  have hl' : (as.map k).length < lim := by rw [List.length_map]; exact hl
  simp only [ev, h1, Res.bind, hl', if_true]
  have := compGo_rel (S := S) (I := I) (k := k) (l := l) (R := R) (as := as) (g := g1) (f := fun d g => match bindT tg d (wipeS τ own) with
    | none => .no
    | some τ' => (ev S T c τ' g).bind fun x g => match tru x with
      | some true => (ev S T el τ' g).bind fun y g => .ok (some y) g
      | some false => .ok none g
      | none => .no) hi fun d hd g hg => by
    obtain ⟨τ', x, y, g', e1, e2, e3, e4, p, i⟩ := hf d hd g hg
    exact ⟨y, g', by simp only [e1, e2, e3, e4, Res.bind], p, i⟩
  obtain ⟨ys, g', e, p, i⟩ := this
  refine ⟨ys, g', ?_, p, i⟩
  erw [e]
  rfl
end
theorem run_ife_t {S : GS} {T : Tab S} {n : Nat} {c : Slim.E} {a b : Slim.S} {τ : Sl} {g g' : S.G} (h : testV T c τ g = .ok true g') : Slim.run T n (.ife c a b) τ g = Slim.run T n a τ g' := by
  simp only [Slim.run, h, Res.out, if_true]
theorem run_ife_f {S : GS} {T : Tab S} {n : Nat} {c : Slim.E} {a b : Slim.S} {τ : Sl} {g g' : S.G} (h : testV T c τ g = .ok false g') : Slim.run T n (.ife c a b) τ g = Slim.run T n b τ g' := by
  simp only [Slim.run, h, Res.out, Bool.false_eq_true, if_false]
theorem map_take_pk (ps : List P3) (n : Nat) : (ps.map pk).take n = (ps.take n).map pk := List.map_take.symm
theorem cut_take (xs : List Slim.D) (n : Nat) : Slim.cutD xs none (some (n : Int)) = xs.take n := by
  unfold Slim.cutD
  rw [HT.sIx_none, HT.sIx_nat, Nat.sub_zero, List.drop_zero]
  rcases Nat.le_total n xs.length with h | h
  · rw [Nat.min_eq_left h]
  · rw [Nat.min_eq_right h, List.take_length, List.take_of_length_le h]
theorem slc_take (xs : List Slim.D) (n : Nat) : slcD (.tuple xs) none (some (n : Int)) = some (.tuple (xs.take n)) := by
  show some (PyData.tuple (Slim.cutD xs none (some (n : Int)))) = _
  rw [cut_take]
theorem plainAll_pk : ∀ ps : List P3, PyData.plainAll (ps.map pk) = true
  | [] => by rw [List.map_nil, PyData.plainAll]
  | p :: ps => by
    rw [List.map_cons, PyData.plainAll, plainAll_pk ps]
    show (PyData.plain (.tuple [.int p.1, .int p.2.1, .int p.2.2]) && true) = true
    rw [PyData.plain, PyData.plainAll, PyData.plainAll, PyData.plainAll, PyData.plainAll, plain_int, plain_int, plain_int]
    rfl

theorem idx_last {xs : List Slim.D} {d : Slim.D} (h : xs.getLast? = some d) : idxD (.list xs) (.int (-1)) = some d := by
  rw [← h]
  show (ixN xs.length (-1)).bind (fun l => xs[l]?) = _
  unfold ixN
  rw [if_neg (by decide)]
  cases xs with
  | nil => rfl
  | cons x xs =>
    rw [if_pos (by simp; omega), List.getLast?_eq_getElem?]
    simp only [Option.bind_some]
    congr 1
    simp
    omega
end Law

set_option Elab.async false
set_option linter.all false
namespace Law
theorem num_eq (a : Rat) : (a.num : Rat) = a * (a.den : Rat) := by
  have h := Rat.mkRat_self a
  rw [Rat.mkRat_eq_div] at h
  have hd : (a.den : Rat) ≠ 0 := by
    have := a.den_nz
    exact fun z => this (by exact_mod_cast z)
  grind
theorem den_ne (a : Rat) : (a.den : Rat) ≠ 0 := by
  have := a.den_nz
  exact fun z => this (by exact_mod_cast z)
theorem den_pos (a : Rat) : (0 : Int) < (a.den : Int) := by
  have := a.den_pos; omega
theorem plus_eq (a b : Rat) : ((a.num * b.den + b.num * a.den : Int) : Rat) / ((a.den * b.den : Int) : Rat) = a + b := by
  have h1 := num_eq a
  have h2 := num_eq b
  have h3 := den_ne a
  have h4 := den_ne b
  push_cast
  rw [h1, h2]
  grind
theorem minus_eq (a b : Rat) : ((a.num * b.den - b.num * a.den : Int) : Rat) / ((a.den * b.den : Int) : Rat) = a - b := by
  have h1 := num_eq a
  have h2 := num_eq b
  have h3 := den_ne a
  have h4 := den_ne b
  push_cast
  rw [h1, h2]
  grind
theorem times_eq (a : Rat) (w : Int) : ((a.num * w : Int) : Rat) / ((a.den : Int) : Rat) = a * w := by
  have h1 := num_eq a
  have h3 := den_ne a
  push_cast
  rw [h1]
  grind
theorem over_eq (a : Rat) (w : Int) (hw : w ≠ 0) : ((a.num : Int) : Rat) / ((a.den * w : Int) : Rat) = a / w := by
  have h1 := num_eq a
  have h3 := den_ne a
  have h5 : (w : Rat) ≠ 0 := fun z => hw (by exact_mod_cast z)
  push_cast
  rw [h1]
  grind
theorem over2_eq (a : Rat) (t b : Int) (hb : b ≠ 0) : ((a.num * t : Int) : Rat) / ((a.den * b : Int) : Rat) = a * t / b := by
  have h1 := num_eq a
  have h3 := den_ne a
  have h5 : (b : Rat) ≠ 0 := fun z => hb (by exact_mod_cast z)
  push_cast
  rw [h1]
  grind
theorem num_div (a b : Int) (hb : 0 < b) : ((a : Rat) / b).num = a / (Nat.gcd a.natAbs b.natAbs : Nat) ∧ ((((a : Rat) / b).den : Nat) : Int) = b / (Nat.gcd a.natAbs b.natAbs : Nat) := by
  rw [← Rat.divInt_eq_div, Rat.num_divInt, Rat.den_divInt, if_neg (by omega), Int.sign_eq_one_of_pos hb, Int.one_mul]
  constructor
  · rw [Int.gcd_comm]; rfl
  · rw [Int.gcd_comm]
    have : ((b.natAbs / a.gcd b : Nat) : Int) = (b.natAbs : Int) / (a.gcd b : Int) := by norm_cast
    rw [this, Int.natAbs_of_nonneg (by omega)]
    rfl
end Law

set_option Elab.async false
set_option linter.all false
set_option maxRecDepth 100000
set_option maxHeartbeats 4000000
namespace Law
open PySem PySem.Spec PyProof.Rows L2 Slim
/-! fractions: pairs of integers that stand for rationals -/
def fr (q : Rat) : Slim.D := .tuple [.int q.num, .int (q.den : Nat)]
def sm (q : Rat) : Prop := q.num.natAbs.log2 < 4000 ∧ q.den.log2 < 4000
def smN (i : Int) : Prop := i.natAbs.log2 < 8100
theorem mul_sm {i j : Int} (hi : smN i) (hj : smN j) : mulD (.int i) (.int j) = some (.int (i * j)) := by
  unfold smN at hi hj
  exact if_pos (.inr (by show i.natAbs.log2 + j.natAbs.log2 < 1000000; omega))
theorem log2_mul (a b : Nat) : (a * b).log2 < a.log2 + b.log2 + 2 := by
  by_cases z : a * b = 0
  · rw [z, Nat.log2_zero]; omega
  · have ha : a ≠ 0 := fun h => z (by rw [h, Nat.zero_mul])
    have hb : b ≠ 0 := fun h => z (by rw [h, Nat.mul_zero])
    refine (Nat.log2_lt z).mpr ?_
    have h1 := (Nat.log2_lt ha).mp (Nat.lt_succ_self a.log2)
    have h2 := (Nat.log2_lt hb).mp (Nat.lt_succ_self b.log2)
    have h3 := Nat.mul_lt_mul'' h1 h2
    rw [← Nat.pow_add] at h3
    have e : a.log2.succ + b.log2.succ = a.log2 + b.log2 + 2 := by omega
    rw [e] at h3
    exact h3
theorem log2_le {a b : Nat} (h : a ≤ b) : a.log2 ≤ b.log2 := by
  by_cases z : a = 0
  · rw [z, Nat.log2_zero]; exact Nat.zero_le _
  · have hb : b ≠ 0 := by omega
    have h2 := (Nat.log2_lt hb).mp (Nat.lt_succ_self b.log2)
    exact Nat.le_of_lt_succ ((Nat.log2_lt z).mpr (Nat.lt_of_le_of_lt h h2))
theorem sm.num {q : Rat} (h : sm q) : smN q.num := Nat.lt_trans h.1 (by decide)
theorem sm.den {q : Rat} (h : sm q) : smN ((q.den : Nat) : Int) := by unfold smN; rw [Int.natAbs_natCast]; exact Nat.lt_trans h.2 (by decide)
theorem fr0 (q : Rat) : idxD (fr q) (.int 0) = some (.int q.num) := rfl
theorem fr1 (q : Rat) : idxD (fr q) (.int 1) = some (.int (q.den : Nat)) := rfl
theorem noMut_fr (q : Rat) : noMut (fr q) = true := rfl
theorem ratio_fr {a b : Int} (hb : 0 < b) : ratio a b = fr ((a : Rat) / b) := by
  obtain ⟨h1, h2⟩ := num_div a b hb
  unfold ratio fr
  rw [h1, h2]
theorem gcd_log8 {a b : Int} (hb : 0 < b) (h2 : smN b) : (Nat.gcd a.natAbs b.natAbs).log2 < 9000 := by
  have h3 : Nat.gcd a.natAbs b.natAbs ≤ b.natAbs := Nat.le_of_dvd (by omega) (Nat.gcd_dvd_right _ _)
  have h4 := log2_le h3
  unfold smN at h2
  omega
theorem φ_fraction_fr {a b : Int} (hb : 0 < b) (h2 : smN b) : φ_fraction [.int a, .int b] = some (fr ((a : Rat) / b)) := by
  unfold φ_fraction
  simp only [hb, gcd_log8 hb h2, and_self, if_true]
  exact congrArg some (ratio_fr hb)
theorem den_mul {a b : Rat} (ha : sm a) (hb : sm b) : (0 : Int) < (a.den : Int) * (b.den : Int) ∧ smN ((a.den : Int) * (b.den : Int)) := by
  refine ⟨Int.mul_pos (den_pos a) (den_pos b), ?_⟩
  unfold smN
  rw [Int.natAbs_mul, Int.natAbs_natCast, Int.natAbs_natCast]
  have h := log2_mul a.den b.den
  have h1 := ha.2
  have h2 := hb.2
  omega
section
variable {S : GS}
structure OpOk (F : FSpec S) (op : Rat → Rat → Rat) : Prop where
  dk : F.dk = false
  n : F.n = 2
  run : ∀ (a b : Rat) (g : S.G), sm a → sm b → F.f [fr a, fr b] g = .ok (fr (op a b)) g

/-- a fraction and an integer -/
structure OpI (F : FSpec S) (ok : Int → Prop) (op : Rat → Int → Rat) : Prop where
  dk : F.dk = false
  n : F.n = 2
  run : ∀ (a : Rat) (w : Int) (g : S.G), sm a → ok w → F.f [fr a, .int w] g = .ok (fr (op a w)) g
structure LtOk (F : FSpec S) : Prop where
  dk : F.dk = false
  n : F.n = 2
  run : ∀ (a b : Rat) (g : S.G), sm a → sm b → F.f [fr a, fr b] g = .ok (.bool (decide (a < b))) g
theorem pf_run' {n : Nat} {φ : List Slim.D → Option Slim.D} {ds : List Slim.D} {d : Slim.D} (h : φ ds = some d) (g : S.G) : (pureF (S := S) n φ).f ds g = .ok d g := by
  simp only [pureF, h]
theorem p_dk' : ∀ n φ, (pureF (S := S) n φ).dk = false := fun _ _ => rfl
theorem p_n' : ∀ n φ, (pureF (S := S) n φ).n = n := fun _ _ => rfl

/-- a fraction of two integers -/
structure FracOk (F : FSpec S) : Prop where
  dk : F.dk = false
  n : F.n = 2
  run : ∀ (a b : Int) (g : S.G), 0 < b → smN b → F.f [.int a, .int b] g = .ok (fr ((a : Rat) / b)) g
theorem frac_ok : FracOk (S := S) (pureF 2 φ_fraction) := ⟨rfl, rfl, fun a b g h1 h2 => pf_run' (φ_fraction_fr h1 h2) g⟩
theorem e_plus {F : FSpec S} (h : FracOk F) {a b : Rat} (ha : sm a) (hb : sm b) (g : S.G) : F.f [.int (a.num * (b.den : Nat) + b.num * (a.den : Nat)), .int ((a.den : Nat) * (b.den : Nat))] g = .ok (fr (a + b)) g := by
  rw [h.run _ _ g (den_mul ha hb).1 (den_mul ha hb).2, plus_eq a b]
theorem e_minus {F : FSpec S} (h : FracOk F) {a b : Rat} (ha : sm a) (hb : sm b) (g : S.G) : F.f [.int (a.num * (b.den : Nat) - b.num * (a.den : Nat)), .int ((a.den : Nat) * (b.den : Nat))] g = .ok (fr (a - b)) g := by
  rw [h.run _ _ g (den_mul ha hb).1 (den_mul ha hb).2, minus_eq a b]

/-- two pairs of integers, multiplied crosswise -/
theorem cross_plus (T : Tab S) {F : FSpec S} (hF : T "fraction" = some F) (h1 : F.dk = false) (h2 : F.n = 2) (fuel : Nat) (x y z : Slim.D) (a b c d p q r : Int) (g : S.G) (x0 : idxD x (.int 0) = some (.int a)) (x1 : idxD x (.int 1) = some (.int b)) (y0 : idxD y (.int 0) = some (.int c)) (y1 : idxD y (.int 1) = some (.int d))
    (m1 : mulD (.int a) (.int d) = some (.int p)) (m2 : mulD (.int c) (.int b) = some (.int q)) (m3 : mulD (.int b) (.int d) = some (.int r)) (e : ∀ g : S.G, F.f [.int (p + q), .int r] g = .ok z g) : runF T false 2 fuel t_plus [x, y] g = .ok z g := by
  show outR (Slim.run T fuel t_plus [.dat x, .dat y] g) = _
  unfold t_plus
  simp only [Slim.run, Slim.Out.seq, Slim.evV, Slim.testV, Slim.ev, Slim.evs, Slim.Res.bind, Slim.Res.of, Slim.Res.out, Slim.lI, Slim.a1, Slim.a2, Slim.rds, Slim.view, Slim.viewAt, Slim.getD, List.append_nil, List.nil_append, List.cons_append, List.getElem?_cons_zero, List.getElem?_cons_succ, Slim.bop, Slim.add_i, Slim.blt, Slim.un, Slim.bi, Slim.intD, Option.map_some, Option.bind_some, Slim.tru, Slim.asgS, Slim.isNew, Slim.aft, Slim.noMut, List.set_cons_zero, List.set_cons_succ, Bool.false_eq_true, if_false, if_true, Slim.cop, Slim.ltI, Slim.max2D, List.contains_cons, List.contains_nil, Nat.reduceBEq, Bool.or_false, Bool.false_or, Bool.or_true, Bool.true_or, Nat.reduceAdd, Nat.zero_add, reduceCtorEq, Option.isSome_some, Option.isSome_none, List.length_cons, List.length_nil, x0, x1, y0, y1, m1, m2, m3, hF, h1, h2, e, outR]
theorem cross_minus (T : Tab S) {F : FSpec S} (hF : T "fraction" = some F) (h1 : F.dk = false) (h2 : F.n = 2) (fuel : Nat) (x y z : Slim.D) (a b c d p q r : Int) (g : S.G) (x0 : idxD x (.int 0) = some (.int a)) (x1 : idxD x (.int 1) = some (.int b)) (y0 : idxD y (.int 0) = some (.int c)) (y1 : idxD y (.int 1) = some (.int d))
    (m1 : mulD (.int a) (.int d) = some (.int p)) (m2 : mulD (.int c) (.int b) = some (.int q)) (m3 : mulD (.int b) (.int d) = some (.int r)) (e : ∀ g : S.G, F.f [.int (p - q), .int r] g = .ok z g) : runF T false 2 fuel t_minus [x, y] g = .ok z g := by
  show outR (Slim.run T fuel t_minus [.dat x, .dat y] g) = _
  unfold t_minus
  simp only [Slim.run, Slim.Out.seq, Slim.evV, Slim.testV, Slim.ev, Slim.evs, Slim.Res.bind, Slim.Res.of, Slim.Res.out, Slim.lI, Slim.a1, Slim.a2, Slim.rds, Slim.view, Slim.viewAt, Slim.getD, List.append_nil, List.nil_append, List.cons_append, List.getElem?_cons_zero, List.getElem?_cons_succ, Slim.bop, Slim.add_i, Slim.blt, Slim.un, Slim.bi, Slim.intD, Option.map_some, Option.bind_some, Slim.tru, Slim.asgS, Slim.isNew, Slim.aft, Slim.noMut, List.set_cons_zero, List.set_cons_succ, Bool.false_eq_true, if_false, if_true, Slim.cop, Slim.ltI, Slim.max2D, List.contains_cons, List.contains_nil, Nat.reduceBEq, Bool.or_false, Bool.false_or, Bool.or_true, Bool.true_or, Nat.reduceAdd, Nat.zero_add, reduceCtorEq, Option.isSome_some, Option.isSome_none, List.length_cons, List.length_nil, x0, x1, y0, y1, m1, m2, m3, hF, h1, h2, e, subD, outR]
theorem side_times (T : Tab S) {F : FSpec S} (hF : T "fraction" = some F) (h1 : F.dk = false) (h2 : F.n = 2) (fuel : Nat) (x z : Slim.D) (a b w p : Int) (g : S.G) (x0 : idxD x (.int 0) = some (.int a)) (x1 : idxD x (.int 1) = some (.int b))
    (m1 : mulD (.int a) (.int w) = some (.int p)) (e : ∀ g : S.G, F.f [.int p, .int b] g = .ok z g) : runF T false 2 fuel t_times [x, .int w] g = .ok z g := by
  show outR (Slim.run T fuel t_times [.dat x, .dat (.int w)] g) = _
  unfold t_times
  simp only [Slim.run, Slim.Out.seq, Slim.evV, Slim.testV, Slim.ev, Slim.evs, Slim.Res.bind, Slim.Res.of, Slim.Res.out, Slim.lI, Slim.a1, Slim.a2, Slim.rds, Slim.view, Slim.viewAt, Slim.getD, List.append_nil, List.nil_append, List.cons_append, List.getElem?_cons_zero, List.getElem?_cons_succ, Slim.bop, Slim.add_i, Slim.blt, Slim.un, Slim.bi, Slim.intD, Option.map_some, Option.bind_some, Slim.tru, Slim.asgS, Slim.isNew, Slim.aft, Slim.noMut, List.set_cons_zero, List.set_cons_succ, Bool.false_eq_true, if_false, if_true, Slim.cop, Slim.ltI, Slim.max2D, List.contains_cons, List.contains_nil, Nat.reduceBEq, Bool.or_false, Bool.false_or, Bool.or_true, Bool.true_or, Nat.reduceAdd, Nat.zero_add, reduceCtorEq, Option.isSome_some, Option.isSome_none, List.length_cons, List.length_nil, x0, x1, m1, hF, h1, h2, e, outR]
theorem side_over (T : Tab S) {F : FSpec S} (hF : T "fraction" = some F) (h1 : F.dk = false) (h2 : F.n = 2) (fuel : Nat) (x z : Slim.D) (a b w p : Int) (g : S.G) (x0 : idxD x (.int 0) = some (.int a)) (x1 : idxD x (.int 1) = some (.int b))
    (m1 : mulD (.int b) (.int w) = some (.int p)) (e : ∀ g : S.G, F.f [.int a, .int p] g = .ok z g) : runF T false 2 fuel t_over [x, .int w] g = .ok z g := by
  show outR (Slim.run T fuel t_over [.dat x, .dat (.int w)] g) = _
  unfold t_over
  simp only [Slim.run, Slim.Out.seq, Slim.evV, Slim.testV, Slim.ev, Slim.evs, Slim.Res.bind, Slim.Res.of, Slim.Res.out, Slim.lI, Slim.a1, Slim.a2, Slim.rds, Slim.view, Slim.viewAt, Slim.getD, List.append_nil, List.nil_append, List.cons_append, List.getElem?_cons_zero, List.getElem?_cons_succ, Slim.bop, Slim.add_i, Slim.blt, Slim.un, Slim.bi, Slim.intD, Option.map_some, Option.bind_some, Slim.tru, Slim.asgS, Slim.isNew, Slim.aft, Slim.noMut, List.set_cons_zero, List.set_cons_succ, Bool.false_eq_true, if_false, if_true, Slim.cop, Slim.ltI, Slim.max2D, List.contains_cons, List.contains_nil, Nat.reduceBEq, Bool.or_false, Bool.false_or, Bool.or_true, Bool.true_or, Nat.reduceAdd, Nat.zero_add, reduceCtorEq, Option.isSome_some, Option.isSome_none, List.length_cons, List.length_nil, x0, x1, m1, hF, h1, h2, e, outR]
theorem cross_below (T : Tab S) (fuel : Nat) (x y : Slim.D) (a b c d p q : Int) (g : S.G) (x0 : idxD x (.int 0) = some (.int a)) (x1 : idxD x (.int 1) = some (.int b)) (y0 : idxD y (.int 0) = some (.int c)) (y1 : idxD y (.int 1) = some (.int d))
    (m1 : mulD (.int a) (.int d) = some (.int p)) (m2 : mulD (.int c) (.int b) = some (.int q)) : runF T false 2 fuel t_is_below [x, y] g = .ok (.bool (decide (p < q))) g := by
  show outR (Slim.run T fuel t_is_below [.dat x, .dat y] g) = _
  unfold t_is_below
  simp only [Slim.run, Slim.Out.seq, Slim.evV, Slim.testV, Slim.ev, Slim.evs, Slim.Res.bind, Slim.Res.of, Slim.Res.out, Slim.lI, Slim.a1, Slim.a2, Slim.rds, Slim.view, Slim.viewAt, Slim.getD, List.append_nil, List.nil_append, List.cons_append, List.getElem?_cons_zero, List.getElem?_cons_succ, Slim.bop, Slim.add_i, Slim.blt, Slim.un, Slim.bi, Slim.intD, Option.map_some, Option.bind_some, Slim.tru, Slim.asgS, Slim.isNew, Slim.aft, Slim.noMut, List.set_cons_zero, List.set_cons_succ, Bool.false_eq_true, if_false, if_true, Slim.cop, Slim.ltI, Slim.max2D, List.contains_cons, List.contains_nil, Nat.reduceBEq, Bool.or_false, Bool.false_or, Bool.or_true, Bool.true_or, Nat.reduceAdd, Nat.zero_add, reduceCtorEq, Option.isSome_some, Option.isSome_none, List.length_cons, List.length_nil, x0, x1, y0, y1, m1, m2, outR]
theorem plus_ok (T : Tab S) {F : FSpec S} (hF : T "fraction" = some F) (h : FracOk F) (fuel : Nat) : OpOk (S := S) ⟨false, 2, runF T false 2 fuel t_plus⟩ (fun a b => a + b) where
  dk := rfl
  n := rfl
  run := fun a b g ha hb => cross_plus T hF h.dk h.n fuel _ _ _ _ _ _ _ _ _ _ g (fr0 a) (fr1 a) (fr0 b) (fr1 b) (mul_sm ha.num hb.den) (mul_sm hb.num ha.den) (mul_sm ha.den hb.den) fun g => e_plus h ha hb g
theorem minus_ok (T : Tab S) {F : FSpec S} (hF : T "fraction" = some F) (h : FracOk F) (fuel : Nat) : OpOk (S := S) ⟨false, 2, runF T false 2 fuel t_minus⟩ (fun a b => a - b) where
  dk := rfl
  n := rfl
  run := fun a b g ha hb => cross_minus T hF h.dk h.n fuel _ _ _ _ _ _ _ _ _ _ g (fr0 a) (fr1 a) (fr0 b) (fr1 b) (mul_sm ha.num hb.den) (mul_sm hb.num ha.den) (mul_sm ha.den hb.den) fun g => e_minus h ha hb g
def okI (w : Int) : Prop := 0 ≤ w ∧ w < 2 ^ 60
theorem small60 {w : Int} (h : 0 ≤ w ∧ w < 2 ^ 60) : w.natAbs.log2 < 61 := by
  have h1 : w.natAbs < 2 ^ 61 := by have := h.1; have := h.2; omega
  by_cases z : w.natAbs = 0
  · rw [z, Nat.log2_zero]; decide
  · exact (Nat.log2_lt z).mpr h1
theorem okI.small {w : Int} (h : okI w) : smN w := Nat.lt_trans (small60 h) (by decide)
theorem e_times {F : FSpec S} (h : FracOk F) {a : Rat} {w : Int} (ha : sm a) (g : S.G) : F.f [.int (a.num * w), .int (a.den : Nat)] g = .ok (fr (a * w)) g := by
  rw [h.run _ _ g (den_pos a) ha.den, times_eq]
theorem times_ok (T : Tab S) {F : FSpec S} (hF : T "fraction" = some F) (h : FracOk F) (fuel : Nat) : OpI (S := S) ⟨false, 2, runF T false 2 fuel t_times⟩ okI (fun a w => a * w) where
  dk := rfl
  n := rfl
  run := fun a w g ha hw => side_times T hF h.dk h.n fuel _ _ _ _ _ _ g (fr0 a) (fr1 a) (mul_sm ha.num hw.small) fun g => e_times h ha g
theorem den_mulI {a : Rat} {w : Int} (ha : sm a) (hw : 0 < w ∧ w < 2 ^ 60) : (0 : Int) < (a.den : Int) * w ∧ smN ((a.den : Int) * w) := by
  refine ⟨Int.mul_pos (den_pos a) hw.1, ?_⟩
  unfold smN
  rw [Int.natAbs_mul, Int.natAbs_natCast]
  have h := log2_mul a.den w.natAbs
  have h1 := ha.2
  have h2 := small60 (w := w) ⟨by omega, hw.2⟩
  omega
theorem e_over {F : FSpec S} (h : FracOk F) {a : Rat} {w : Int} (ha : sm a) (hw : 0 < w ∧ w < 2 ^ 60) (g : S.G) : F.f [.int a.num, .int ((a.den : Nat) * w)] g = .ok (fr (a / w)) g := by
  rw [h.run _ _ g (den_mulI ha hw).1 (den_mulI ha hw).2, over_eq a w (by omega)]
theorem over_ok (T : Tab S) {F : FSpec S} (hF : T "fraction" = some F) (h : FracOk F) (fuel : Nat) : OpI (S := S) ⟨false, 2, runF T false 2 fuel t_over⟩ (fun w => 0 < w ∧ w < 2 ^ 60) (fun a w => a / w) where
  dk := rfl
  n := rfl
  run := fun a w g ha hw => side_over T hF h.dk h.n fuel _ _ _ _ _ _ g (fr0 a) (fr1 a) (mul_sm ha.den (okI.small ⟨by omega, hw.2⟩)) fun g => e_over h ha hw g
theorem below_ok (T : Tab S) (fuel : Nat) : LtOk (S := S) ⟨false, 2, runF T false 2 fuel t_is_below⟩ where
  dk := rfl
  n := rfl
  run := fun a b g ha hb => (cross_below T fuel _ _ _ _ _ _ _ _ g (fr0 a) (fr1 a) (fr0 b) (fr1 b) (mul_sm ha.num hb.den) (mul_sm hb.num ha.den)).trans (congrArg (fun t => Res.ok (PyData.bool t) g) (decide_eq_decide.mpr (Rat.lt_iff a b).symm))
theorem greater_ok (T : Tab S) {F : FSpec S} (hF : T "is_below" = some F) (h : LtOk F) (fuel : Nat) : OpOk (S := S) ⟨false, 2, runF T false 2 fuel t_greater⟩ (fun a b => if a < b then b else a) where
  dk := rfl
  n := rfl
  run := fun a b g ha hb => by
    show outR (Slim.run T fuel t_greater [.dat (fr a), .dat (fr b)] g) = _
    unfold t_greater
    by_cases hl : a < b
    · simp only [Slim.run, Slim.Out.seq, Slim.evV, Slim.testV, Slim.ev, Slim.evs, Slim.Res.bind, Slim.Res.of, Slim.Res.out, Slim.lI, Slim.a1, Slim.a2, Slim.rds, Slim.view, Slim.viewAt, Slim.getD, List.append_nil, List.nil_append, List.cons_append, List.getElem?_cons_zero, List.getElem?_cons_succ, Slim.bop, Slim.add_i, Slim.blt, Slim.un, Slim.bi, Slim.intD, Option.map_some, Option.bind_some, Slim.tru, Slim.asgS, Slim.isNew, Slim.aft, Slim.noMut, List.set_cons_zero, List.set_cons_succ, Bool.false_eq_true, if_false, if_true, Slim.cop, Slim.ltI, Slim.max2D, List.contains_cons, List.contains_nil, Nat.reduceBEq, Bool.or_false, Bool.false_or, Bool.or_true, Bool.true_or, Nat.reduceAdd, Nat.zero_add, reduceCtorEq, Option.isSome_some, Option.isSome_none, List.length_cons, List.length_nil, hF, h.dk, h.n, h.run a b g ha hb, hl, decide_true, outR]
    · simp only [Slim.run, Slim.Out.seq, Slim.evV, Slim.testV, Slim.ev, Slim.evs, Slim.Res.bind, Slim.Res.of, Slim.Res.out, Slim.lI, Slim.a1, Slim.a2, Slim.rds, Slim.view, Slim.viewAt, Slim.getD, List.append_nil, List.nil_append, List.cons_append, List.getElem?_cons_zero, List.getElem?_cons_succ, Slim.bop, Slim.add_i, Slim.blt, Slim.un, Slim.bi, Slim.intD, Option.map_some, Option.bind_some, Slim.tru, Slim.asgS, Slim.isNew, Slim.aft, Slim.noMut, List.set_cons_zero, List.set_cons_succ, Bool.false_eq_true, if_false, if_true, Slim.cop, Slim.ltI, Slim.max2D, List.contains_cons, List.contains_nil, Nat.reduceBEq, Bool.or_false, Bool.false_or, Bool.or_true, Bool.true_or, Nat.reduceAdd, Nat.zero_add, reduceCtorEq, Option.isSome_some, Option.isSome_none, List.length_cons, List.length_nil, hF, h.dk, h.n, h.run a b g ha hb, hl, decide_false, outR]

/-- the least of some -/
def leastR (q : Rat) : List Rat → Rat
  | [] => q
  | r :: rs => leastR (if r < q then r else q) rs
theorem leastR_le : ∀ (rs : List Rat) (q : Rat), leastR q rs ≤ q ∧ ∀ r ∈ rs, leastR q rs ≤ r
  | [], q => ⟨by unfold leastR; exact Rat.le_refl, fun _ h => (List.not_mem_nil h).elim⟩
  | r :: rs, q => by
    obtain ⟨h1, h2⟩ := leastR_le rs (if r < q then r else q)
    unfold leastR
    refine ⟨?_, fun x hx => ?_⟩
    · split at h1 <;> grind
    · rcases List.mem_cons.mp hx with rfl | hx
      · split at h1 <;> grind
      · exact h2 x hx
theorem leastR_mem : ∀ (rs : List Rat) (q : Rat), leastR q rs = q ∨ leastR q rs ∈ rs
  | [], q => .inl rfl
  | r :: rs, q => by
    unfold leastR
    rcases leastR_mem rs (if r < q then r else q) with h | h
    · rw [h]
      split
      · exact .inr (List.mem_cons_self ..)
      · exact .inl rfl
    · exact .inr (List.mem_cons_of_mem _ h)
theorem least_go (T : Tab S) {F : FSpec S} (hF : T "is_below" = some F) (h : LtOk F) (fuel : Nat) (d : Slim.D) : ∀ (rs : List Rat) (q : Rat) (s2 : SV) (g : S.G), sm q → (∀ r ∈ rs, sm r) → ∃ s2', forGo (fun d τ g => match bindT (.nm 2) d τ with
      | some τ' => Slim.run T fuel (.cons (.ife (.call "is_below" none (.cons (.var 2) (.cons (.var 1) .nil))) (.cons (.asg 1 (.var 2)) .nil) .nil) .nil) τ' g
      | none => .no) (rs.map fr) [.dat d, .dat (fr q), s2] g = .nx [.dat d, .dat (fr (leastR q rs)), s2'] g
  | [], q, s2, g, _, _ => ⟨s2, rfl⟩
  | r :: rs, q, s2, g, hq, hr => by
    have hr1 := hr r (List.mem_cons_self ..)
    have e0 : bindT (.nm 2) (fr r) [.dat d, .dat (fr q), s2] = some [.dat d, .dat (fr q), .dat (fr r)] := rfl
    have step : Slim.run T fuel (.cons (.ife (.call "is_below" none (.cons (.var 2) (.cons (.var 1) .nil))) (.cons (.asg 1 (.var 2)) .nil) .nil) .nil) [.dat d, .dat (fr q), .dat (fr r)] g = .nx [.dat d, .dat (fr (if r < q then r else q)), .dat (fr r)] g := by
      by_cases hl : r < q
      · simp only [Slim.run, Slim.Out.seq, Slim.evV, Slim.testV, Slim.ev, Slim.evs, Slim.Res.bind, Slim.Res.of, Slim.Res.out, Slim.lI, Slim.a1, Slim.a2, Slim.rds, Slim.view, Slim.viewAt, Slim.getD, List.append_nil, List.nil_append, List.cons_append, List.getElem?_cons_zero, List.getElem?_cons_succ, Slim.bop, Slim.add_i, Slim.blt, Slim.un, Slim.bi, Slim.intD, Option.map_some, Option.bind_some, Slim.tru, Slim.asgS, Slim.isNew, Slim.aft, Slim.noMut, List.set_cons_zero, List.set_cons_succ, Bool.false_eq_true, if_false, if_true, Slim.cop, Slim.ltI, Slim.max2D, List.contains_cons, List.contains_nil, Nat.reduceBEq, Bool.or_false, Bool.false_or, Bool.or_true, Bool.true_or, Nat.reduceAdd, Nat.zero_add, reduceCtorEq, Option.isSome_some, Option.isSome_none, List.length_cons, List.length_nil, hF, h.dk, h.n, h.run r q g hr1 hq, hl, decide_true, noMut_fr]
      · simp only [Slim.run, Slim.Out.seq, Slim.evV, Slim.testV, Slim.ev, Slim.evs, Slim.Res.bind, Slim.Res.of, Slim.Res.out, Slim.lI, Slim.a1, Slim.a2, Slim.rds, Slim.view, Slim.viewAt, Slim.getD, List.append_nil, List.nil_append, List.cons_append, List.getElem?_cons_zero, List.getElem?_cons_succ, Slim.bop, Slim.add_i, Slim.blt, Slim.un, Slim.bi, Slim.intD, Option.map_some, Option.bind_some, Slim.tru, Slim.asgS, Slim.isNew, Slim.aft, Slim.noMut, List.set_cons_zero, List.set_cons_succ, Bool.false_eq_true, if_false, if_true, Slim.cop, Slim.ltI, Slim.max2D, List.contains_cons, List.contains_nil, Nat.reduceBEq, Bool.or_false, Bool.false_or, Bool.or_true, Bool.true_or, Nat.reduceAdd, Nat.zero_add, reduceCtorEq, Option.isSome_some, Option.isSome_none, List.length_cons, List.length_nil, hF, h.dk, h.n, h.run r q g hr1 hq, hl, decide_false]
    obtain ⟨s2', e⟩ := least_go T hF h fuel d rs (if r < q then r else q) (.dat (fr r)) g (by split <;> assumption) fun x hx => hr x (List.mem_cons_of_mem _ hx)
    refine ⟨s2', ?_⟩
    show _ = Out.nx [.dat d, .dat (fr (leastR (if r < q then r else q) rs)), s2'] g
    rw [← e]
    simp only [List.map_cons, forGo, e0, step]
theorem least_run (T : Tab S) {F : FSpec S} (hF : T "is_below" = some F) (h : LtOk F) (fuel : Nat) (q : Rat) (rs : List Rat) (g : S.G) (hq : sm q) (hr : ∀ r ∈ rs, sm r) (hl : rs.length < 1000) :
    runF T false 3 fuel t_least [.list ((q :: rs).map fr)] g = .ok (fr (leastR q rs)) g := by
  show outR (Slim.run T fuel t_least [.dat (.list ((q :: rs).map fr)), .un, .un] g) = _
  have hix : idxD (.list ((q :: rs).map fr)) (.int 0) = some (fr q) := by
    unfold idxD atI ixN
    simp
  have s1 : Slim.run T fuel (.asg 1 (.idx (.var 0) (.lit (.int 0)))) [.dat (.list ((q :: rs).map fr)), .un, .un] g = .nx [.dat (.list ((q :: rs).map fr)), .dat (fr q), .un] g := by
    simp only [Slim.run, Slim.Out.seq, Slim.evV, Slim.testV, Slim.ev, Slim.evs, Slim.Res.bind, Slim.Res.of, Slim.Res.out, Slim.lI, Slim.a1, Slim.a2, Slim.rds, Slim.view, Slim.viewAt, Slim.getD, List.append_nil, List.nil_append, List.cons_append, List.getElem?_cons_zero, List.getElem?_cons_succ, Slim.bop, Slim.add_i, Slim.blt, Slim.un, Slim.bi, Slim.intD, Option.map_some, Option.bind_some, Slim.tru, Slim.asgS, Slim.isNew, Slim.aft, Slim.noMut, List.set_cons_zero, List.set_cons_succ, Bool.false_eq_true, if_false, if_true, Slim.cop, Slim.ltI, Slim.max2D, List.contains_cons, List.contains_nil, Nat.reduceBEq, Bool.or_false, Bool.false_or, Bool.or_true, Bool.true_or, Nat.reduceAdd, Nat.zero_add, reduceCtorEq, Option.isSome_some, Option.isSome_none, List.length_cons, List.length_nil, hix, noMut_fr]
  obtain ⟨s2', e2⟩ := least_go T hF h fuel (.list ((q :: rs).map fr)) (q :: rs) q .un g hq (fun x hx => by
    rcases List.mem_cons.mp hx with rfl | hx
    · exact hq
    · exact hr x hx)
  have e3 : leastR q (q :: rs) = leastR q rs := by
    show leastR (if q < q then q else q) rs = _
    rw [ite_self]
  rw [e3] at e2
  have hlt : ((q :: rs).map fr).length < lim := by rw [List.length_map, List.length_cons]; exact lt_lim (by omega)
  have s2 : Slim.run T fuel (.for_ (.nm 2) (.cons (.var 0) .nil) (.cons (.ife (.call "is_below" none (.cons (.var 2) (.cons (.var 1) .nil))) (.cons (.asg 1 (.var 2)) .nil) .nil) .nil)) [.dat (.list ((q :: rs).map fr)), .dat (fr q), .un] g = .nx [.dat (.list ((q :: rs).map fr)), .dat (fr (leastR q rs)), s2'] g := by
    have ei : evi S T (.cons (.var 0) .nil) (view (rds (.cons (.var 0) .nil)) [.dat (.list ((q :: rs).map fr)), .dat (fr q), .un]) g = .ok ((q :: rs).map fr) g := by
      simp only [Slim.run, Slim.Out.seq, Slim.evV, Slim.testV, Slim.ev, Slim.evs, Slim.Res.bind, Slim.Res.of, Slim.Res.out, Slim.lI, Slim.a1, Slim.a2, Slim.rds, Slim.view, Slim.viewAt, Slim.getD, List.append_nil, List.nil_append, List.cons_append, List.getElem?_cons_zero, List.getElem?_cons_succ, Slim.bop, Slim.add_i, Slim.blt, Slim.un, Slim.bi, Slim.intD, Option.map_some, Option.bind_some, Slim.tru, Slim.asgS, Slim.isNew, Slim.aft, Slim.noMut, List.set_cons_zero, List.set_cons_succ, Bool.false_eq_true, if_false, if_true, Slim.cop, Slim.ltI, Slim.max2D, List.contains_cons, List.contains_nil, Nat.reduceBEq, Bool.or_false, Bool.false_or, Bool.or_true, Bool.true_or, Nat.reduceAdd, Nat.zero_add, reduceCtorEq, Option.isSome_some, Option.isSome_none, List.length_cons, List.length_nil, evi, seqR]
    simp only [Slim.run, ei, Res.out, hlt, if_true]
    exact e2
  refine (congrArg outR ((run_cons s1).trans (run_cons s2))).trans ?_
  simp only [Slim.run, Slim.Out.seq, Slim.evV, Slim.testV, Slim.ev, Slim.evs, Slim.Res.bind, Slim.Res.of, Slim.Res.out, Slim.lI, Slim.a1, Slim.a2, Slim.rds, Slim.view, Slim.viewAt, Slim.getD, List.append_nil, List.nil_append, List.cons_append, List.getElem?_cons_zero, List.getElem?_cons_succ, Slim.bop, Slim.add_i, Slim.blt, Slim.un, Slim.bi, Slim.intD, Option.map_some, Option.bind_some, Slim.tru, Slim.asgS, Slim.isNew, Slim.aft, Slim.noMut, List.set_cons_zero, List.set_cons_succ, Bool.false_eq_true, if_false, if_true, Slim.cop, Slim.ltI, Slim.max2D, List.contains_cons, List.contains_nil, Nat.reduceBEq, Bool.or_false, Bool.false_or, Bool.or_true, Bool.true_or, Nat.reduceAdd, Nat.zero_add, reduceCtorEq, Option.isSome_some, Option.isSome_none, List.length_cons, List.length_nil, outR]
end
end Law

set_option Elab.async false
set_option linter.all false
set_option maxRecDepth 100000
set_option maxHeartbeats 4000000
namespace Law
open PySem PySem.Spec PyProof.Rows L2 Slim
/-! the law's fractions -/
section
variable {S : GS}

/-- Euclid ends in twice the length of the lesser -/
theorem common_log (T : Tab S) (n : Nat) (g : S.G) : ∀ (k fuel : Nat) (a b : Int), 0 ≤ a → 0 ≤ b → b < 2 ^ k → 2 * k + 1 ≤ fuel →
    ∃ q, whlGo (fun τ g => testV T (.cmp .gt (.var 1) (.lit (.int 0))) τ g) (fun τ g => Slim.run T n (.cons (.par [0, 1] (.cons (.var 1) (.cons (.bin .mod (.blt .int (.cons (.var 0) .nil)) (.var 1)) .nil))) .nil) τ g) fuel [.dat (.int a), .dat (.int b)] g = .nx [.dat (.int ((Nat.gcd a.natAbs b.natAbs : Nat) : Int)), q] g := by
  have stop : ∀ (a : Int), 0 ≤ a → testV T (.cmp .gt (.var 1) (.lit (.int 0))) [.dat (.int a), .dat (.int 0)] g = .ok false g := fun a ha => by
    simp only [Slim.run, Slim.Out.seq, Slim.evV, Slim.testV, Slim.ev, Slim.evs, Slim.Res.bind, Slim.Res.of, Slim.Res.out, Slim.lI, Slim.a1, Slim.a2, Slim.rds, Slim.view, Slim.viewAt, Slim.getD, List.append_nil, List.nil_append, List.cons_append, List.getElem?_cons_zero, List.getElem?_cons_succ, Slim.bop, Slim.add_i, Slim.blt, Slim.un, Slim.bi, Slim.intD, Option.map_some, Option.bind_some, Slim.tru, Slim.asgS, Slim.isNew, Slim.aft, Slim.noMut, List.set_cons_zero, List.set_cons_succ, Bool.false_eq_true, if_false, if_true, Slim.cop, Slim.ltI, Slim.max2D, show ¬ ((0 : Int) < 0) by decide, decide_false]
  have go : ∀ (a b : Int), 0 < b → testV T (.cmp .gt (.var 1) (.lit (.int 0))) [.dat (.int a), .dat (.int b)] g = .ok true g ∧ Slim.run T n (.cons (.par [0, 1] (.cons (.var 1) (.cons (.bin .mod (.blt .int (.cons (.var 0) .nil)) (.var 1)) .nil))) .nil) [.dat (.int a), .dat (.int b)] g = .nx [.dat (.int b), .dat (.int (a % b))] g := fun a b hb => by
    constructor
    · simp only [Slim.run, Slim.Out.seq, Slim.evV, Slim.testV, Slim.ev, Slim.evs, Slim.Res.bind, Slim.Res.of, Slim.Res.out, Slim.lI, Slim.a1, Slim.a2, Slim.rds, Slim.view, Slim.viewAt, Slim.getD, List.append_nil, List.nil_append, List.cons_append, List.getElem?_cons_zero, List.getElem?_cons_succ, Slim.bop, Slim.add_i, Slim.blt, Slim.un, Slim.bi, Slim.intD, Option.map_some, Option.bind_some, Slim.tru, Slim.asgS, Slim.isNew, Slim.aft, Slim.noMut, List.set_cons_zero, List.set_cons_succ, Bool.false_eq_true, if_false, if_true, Slim.cop, Slim.ltI, Slim.max2D, hb, decide_true]
    · simp only [Slim.run, Slim.Out.seq, Slim.evV, Slim.testV, Slim.ev, Slim.evs, Slim.Res.bind, Slim.Res.of, Slim.Res.out, Slim.lI, Slim.a1, Slim.a2, Slim.rds, Slim.view, Slim.viewAt, Slim.getD, List.append_nil, List.nil_append, List.cons_append, List.getElem?_cons_zero, List.getElem?_cons_succ, Slim.bop, Slim.add_i, Slim.blt, Slim.un, Slim.bi, Slim.intD, Option.map_some, Option.bind_some, Slim.tru, Slim.asgS, Slim.isNew, Slim.aft, Slim.noMut, List.set_cons_zero, List.set_cons_succ, Bool.false_eq_true, if_false, if_true, Slim.cop, Slim.ltI, Slim.max2D, mod_p hb, List.length_cons, List.length_nil, svsOf, svOf, mutsOk, mutOk, putS, Bool.and_self, List.cons_append]
  have gz : ∀ a : Int, 0 ≤ a → ((Nat.gcd a.natAbs (0 : Int).natAbs : Nat) : Int) = a := fun a ha => by
    rw [Int.natAbs_zero, Nat.gcd_zero_right]; omega
  have gs : ∀ a b : Int, 0 ≤ a → Nat.gcd b.natAbs (a % b).natAbs = Nat.gcd a.natAbs b.natAbs := fun a b ha => by
    rw [Int.natAbs_emod_of_nonneg ha, Nat.gcd_comm b.natAbs, ← Nat.gcd_rec, Nat.gcd_comm]
  intro k
  induction k with
  | zero =>
    intro fuel a b ha hb hk hf
    have hb0 : b = 0 := by omega
    subst hb0
    cases fuel with
    | zero => omega
    | succ fuel =>
      refine ⟨.dat (.int 0), ?_⟩
      simp only [whlGo, stop a ha, Res.out, Bool.false_eq_true, if_false, gz a ha]
  | succ k ih =>
    intro fuel a b ha hb hk hf
    by_cases z : b = 0
    · subst z
      cases fuel with
      | zero => omega
      | succ fuel =>
        refine ⟨.dat (.int 0), ?_⟩
        simp only [whlGo, stop a ha, Res.out, Bool.false_eq_true, if_false, gz a ha]
    · have hbp : 0 < b := by omega
      have r0 := Int.emod_nonneg a z
      have r1 := Int.emod_lt_of_pos a hbp
      match fuel, hf with
      | fuel + 2, hf =>
        obtain ⟨t1, t2⟩ := go a b hbp
        by_cases zr : a % b = 0
        · refine ⟨.dat (.int 0), ?_⟩
          rw [zr] at t2
          have e : ((Nat.gcd a.natAbs b.natAbs : Nat) : Int) = b := by
            rw [← gs a b ha, zr]; exact gz b hb
          simp only [whlGo, t1, Res.out, if_true, t2, stop b hb, Bool.false_eq_true, if_false, e]
        · have hrp : 0 < a % b := by omega
          obtain ⟨t3, t4⟩ := go b (a % b) hrp
          have q0 := Int.emod_nonneg b zr
          have q1 := Int.emod_lt_of_pos b hrp
          have q2 : b % (a % b) + (a % b) ≤ b := by
            have h1 := Int.emod_add_mul_ediv b (a % b)
            have h2 : 1 ≤ b / (a % b) := (Int.le_ediv_iff_mul_le hrp).mpr (by omega)
            have h3 : (a % b) * 1 ≤ (a % b) * (b / (a % b)) := Int.mul_le_mul_of_nonneg_left h2 r0
            omega
          have hk2 : b % (a % b) < 2 ^ k := by
            have : (2 : Int) ^ (k + 1) = 2 ^ k * 2 := Int.pow_succ ..
            omega
          obtain ⟨q, e⟩ := ih fuel (a % b) (b % (a % b)) r0 q0 hk2 (by omega)
          refine ⟨q, ?_⟩
          have e2 : Nat.gcd (a % b).natAbs (b % (a % b)).natAbs = Nat.gcd a.natAbs b.natAbs := by rw [gs b (a % b) hb, gs a b ha]
          rw [e2] at e
          simp only [whlGo, t1, Res.out, if_true, t2, t3, t4]
          exact e
      | 1, hf => omega
      | 0, hf => omega
theorem common_big (T : Tab S) {fuel : Nat} (g : S.G) {a b : Int} (ha : 0 ≤ a) (hb : 0 ≤ b) (hs : smN b) (hf : 16300 ≤ fuel) : runF T false 2 fuel t__law_common [.int a, .int b] g = .ok (.int ((Nat.gcd a.natAbs b.natAbs : Nat) : Int)) g := by
  have hk : b < 2 ^ (b.natAbs.log2 + 1) := by
    by_cases z : b.natAbs = 0
    · have : b = 0 := by omega
      subst this
      exact Int.pow_pos (by decide)
    · have h1 := (Nat.log2_lt z).mp (Nat.lt_succ_self b.natAbs.log2)
      have h2 : ((b.natAbs : Nat) : Int) < ((2 ^ (b.natAbs.log2 + 1) : Nat) : Int) := by exact_mod_cast h1
      rw [Int.natAbs_of_nonneg hb] at h2
      push_cast at h2
      exact h2
  unfold smN at hs
  obtain ⟨q, hq⟩ := common_log T fuel g (b.natAbs.log2 + 1) fuel a b ha hb hk (by omega)
  show outR (Slim.run T fuel t__law_common [.dat (.int a), .dat (.int b)] g) = _
  unfold t__law_common
  have s1 : Slim.run T fuel (.whl (.cmp .gt (.var 1) (.lit (.int 0))) (.cons (.par [0, 1] (.cons (.var 1) (.cons (.bin .mod (.blt .int (.cons (.var 0) .nil)) (.var 1)) .nil))) .nil)) [.dat (.int a), .dat (.int b)] g = .nx [.dat (.int ((Nat.gcd a.natAbs b.natAbs : Nat) : Int)), q] g := by
    rw [Slim.run]
    exact hq
  rw [run_cons s1]
  cases q <;> (simp only [Slim.run, Slim.Out.seq, Slim.evV, Slim.testV, Slim.ev, Slim.evs, Slim.Res.bind, Slim.Res.of, Slim.Res.out, Slim.lI, Slim.a1, Slim.a2, Slim.rds, Slim.view, Slim.viewAt, Slim.getD, List.append_nil, List.nil_append, List.cons_append, List.getElem?_cons_zero, List.getElem?_cons_succ, Slim.bop, Slim.add_i, Slim.blt, Slim.un, Slim.bi, Slim.intD, Option.map_some, Option.bind_some, Slim.tru, Slim.asgS, Slim.isNew, Slim.aft, Slim.noMut, List.set_cons_zero, List.set_cons_succ, Bool.false_eq_true, if_false, if_true, Slim.cop, Slim.ltI, Slim.max2D, outR])
structure CommonOk (F : FSpec S) : Prop where
  dk : F.dk = false
  n : F.n = 2
  run : ∀ (a b : Int) (g : S.G), 0 ≤ a → 0 < b → smN b → F.f [.int a, .int b] g = .ok (.int ((Nat.gcd a.natAbs b.natAbs : Nat) : Int)) g
theorem common_ok (T : Tab S) {fuel : Nat} (hf : 16300 ≤ fuel) : CommonOk (S := S) ⟨false, 2, runF T false 2 fuel t__law_common⟩ := ⟨rfl, rfl, fun a b g ha hb hs => common_big T g ha (Int.le_of_lt hb) hs hf⟩
theorem law_over (T : Tab S) {F : FSpec S} (hF : T "_law_common" = some F) (h1 : F.dk = false) (h2 : F.n = 2) (fuel : Nat) (a b c q x y : Int) (g : S.G) (ha : absD (.int a) = some (.int c)) (e : ∀ g : S.G, F.f [.int c, .int b] g = .ok (.int q) g) (d1 : fdivD (.int a) (.int q) = some (.int x)) (d2 : fdivD (.int b) (.int q) = some (.int y)) :
    runF T false 3 fuel t__law_over [.int a, .int b] g = .ok (.tuple [.int x, .int y]) g := by
  show outR (Slim.run T fuel t__law_over [.dat (.int a), .dat (.int b), .un] g) = _
  unfold t__law_over
  have hlim : (2 : Nat) ≤ lim := by decide
  simp only [Slim.run, Slim.Out.seq, Slim.evV, Slim.testV, Slim.ev, Slim.evs, Slim.Res.bind, Slim.Res.of, Slim.Res.out, Slim.lI, Slim.a1, Slim.a2, Slim.rds, Slim.view, Slim.viewAt, Slim.getD, List.append_nil, List.nil_append, List.cons_append, List.getElem?_cons_zero, List.getElem?_cons_succ, Slim.bop, Slim.add_i, Slim.blt, Slim.un, Slim.bi, Slim.intD, Option.map_some, Option.bind_some, Slim.tru, Slim.asgS, Slim.isNew, Slim.aft, Slim.noMut, List.set_cons_zero, List.set_cons_succ, Bool.false_eq_true, if_false, if_true, Slim.cop, Slim.ltI, Slim.max2D, List.contains_cons, List.contains_nil, Nat.reduceBEq, Bool.or_false, Bool.false_or, Bool.or_true, Bool.true_or, Nat.reduceAdd, Nat.zero_add, reduceCtorEq, Option.isSome_some, Option.isSome_none, List.length_cons, List.length_nil, ha, hF, h1, h2, e, d1, d2, outR, hlim]
theorem lover_ok (T : Tab S) {F : FSpec S} (hF : T "_law_common" = some F) (h : CommonOk F) (fuel : Nat) : FracOk (S := S) ⟨false, 2, runF T false 3 fuel t__law_over⟩ where
  dk := rfl
  n := rfl
  run := fun a b g hb hs => by
    have ha : absD (.int a) = some (.int ((a.natAbs : Nat) : Int)) := by
      show some (PyData.int (if a < 0 then -a else a)) = _
      congr 2
      split <;> omega
    have e : ∀ g : S.G, F.f [.int ((a.natAbs : Nat) : Int), .int b] g = .ok (.int ((Nat.gcd a.natAbs b.natAbs : Nat) : Int)) g := fun g => by
      have := h.run ((a.natAbs : Nat) : Int) b g (by omega) hb hs
      rw [Int.natAbs_natCast] at this
      exact this
    have hq : (0 : Int) < ((Nat.gcd a.natAbs b.natAbs : Nat) : Int) := by
      have := Nat.gcd_pos_of_pos_right a.natAbs (show 0 < b.natAbs by omega)
      omega
    have hl : ((Nat.gcd a.natAbs b.natAbs : Nat) : Int).natAbs.log2 < 9000 := by rw [Int.natAbs_natCast]; exact gcd_log8 hb hs
    rw [← ratio_fr hb]
    exact law_over T hF h.dk h.n fuel a b _ _ _ _ g ha e (fdiv_p hq hl) (fdiv_p hq hl)
end
end Law

set_option Elab.async false
set_option linter.all false
set_option maxRecDepth 100000
set_option maxHeartbeats 4000000
namespace Law
open PySem PySem.Spec PyProof.Rows L2 Slim
section
variable {S : GS}
theorem lcross_plus (T : Tab S) {F : FSpec S} (hF : T "_law_over" = some F) (h1 : F.dk = false) (h2 : F.n = 2) (fuel : Nat) (x y z : Slim.D) (a b c d p q r : Int) (g : S.G) (x0 : idxD x (.int 0) = some (.int a)) (x1 : idxD x (.int 1) = some (.int b)) (y0 : idxD y (.int 0) = some (.int c)) (y1 : idxD y (.int 1) = some (.int d))
    (m1 : mulD (.int a) (.int d) = some (.int p)) (m2 : mulD (.int c) (.int b) = some (.int q)) (m3 : mulD (.int b) (.int d) = some (.int r)) (e : ∀ g : S.G, F.f [.int (p + q), .int r] g = .ok z g) : runF T false 2 fuel t__law_plus [x, y] g = .ok z g := by
  show outR (Slim.run T fuel t__law_plus [.dat x, .dat y] g) = _
  unfold t__law_plus
  simp only [Slim.run, Slim.Out.seq, Slim.evV, Slim.testV, Slim.ev, Slim.evs, Slim.Res.bind, Slim.Res.of, Slim.Res.out, Slim.lI, Slim.a1, Slim.a2, Slim.rds, Slim.view, Slim.viewAt, Slim.getD, List.append_nil, List.nil_append, List.cons_append, List.getElem?_cons_zero, List.getElem?_cons_succ, Slim.bop, Slim.add_i, Slim.blt, Slim.un, Slim.bi, Slim.intD, Option.map_some, Option.bind_some, Slim.tru, Slim.asgS, Slim.isNew, Slim.aft, Slim.noMut, List.set_cons_zero, List.set_cons_succ, Bool.false_eq_true, if_false, if_true, Slim.cop, Slim.ltI, Slim.max2D, List.contains_cons, List.contains_nil, Nat.reduceBEq, Bool.or_false, Bool.false_or, Bool.or_true, Bool.true_or, Nat.reduceAdd, Nat.zero_add, reduceCtorEq, Option.isSome_some, Option.isSome_none, List.length_cons, List.length_nil, x0, x1, y0, y1, m1, m2, m3, hF, h1, h2, e, outR]
theorem lcross_minus (T : Tab S) {F : FSpec S} (hF : T "_law_over" = some F) (h1 : F.dk = false) (h2 : F.n = 2) (fuel : Nat) (x y z : Slim.D) (a b c d p q r : Int) (g : S.G) (x0 : idxD x (.int 0) = some (.int a)) (x1 : idxD x (.int 1) = some (.int b)) (y0 : idxD y (.int 0) = some (.int c)) (y1 : idxD y (.int 1) = some (.int d))
    (m1 : mulD (.int a) (.int d) = some (.int p)) (m2 : mulD (.int c) (.int b) = some (.int q)) (m3 : mulD (.int b) (.int d) = some (.int r)) (e : ∀ g : S.G, F.f [.int (p - q), .int r] g = .ok z g) : runF T false 2 fuel t__law_minus [x, y] g = .ok z g := by
  show outR (Slim.run T fuel t__law_minus [.dat x, .dat y] g) = _
  unfold t__law_minus
  simp only [Slim.run, Slim.Out.seq, Slim.evV, Slim.testV, Slim.ev, Slim.evs, Slim.Res.bind, Slim.Res.of, Slim.Res.out, Slim.lI, Slim.a1, Slim.a2, Slim.rds, Slim.view, Slim.viewAt, Slim.getD, List.append_nil, List.nil_append, List.cons_append, List.getElem?_cons_zero, List.getElem?_cons_succ, Slim.bop, Slim.add_i, Slim.blt, Slim.un, Slim.bi, Slim.intD, Option.map_some, Option.bind_some, Slim.tru, Slim.asgS, Slim.isNew, Slim.aft, Slim.noMut, List.set_cons_zero, List.set_cons_succ, Bool.false_eq_true, if_false, if_true, Slim.cop, Slim.ltI, Slim.max2D, List.contains_cons, List.contains_nil, Nat.reduceBEq, Bool.or_false, Bool.false_or, Bool.or_true, Bool.true_or, Nat.reduceAdd, Nat.zero_add, reduceCtorEq, Option.isSome_some, Option.isSome_none, List.length_cons, List.length_nil, x0, x1, y0, y1, m1, m2, m3, hF, h1, h2, e, subD, outR]
theorem lside_times (T : Tab S) {F : FSpec S} (hF : T "_law_over" = some F) (h1 : F.dk = false) (h2 : F.n = 2) (fuel : Nat) (x z : Slim.D) (a b t u p q : Int) (g : S.G) (x0 : idxD x (.int 0) = some (.int a)) (x1 : idxD x (.int 1) = some (.int b))
    (m1 : mulD (.int a) (.int t) = some (.int p)) (m2 : mulD (.int b) (.int u) = some (.int q)) (e : ∀ g : S.G, F.f [.int p, .int q] g = .ok z g) : runF T false 3 fuel t__law_times [x, .int t, .int u] g = .ok z g := by
  show outR (Slim.run T fuel t__law_times [.dat x, .dat (.int t), .dat (.int u)] g) = _
  unfold t__law_times
  simp only [Slim.run, Slim.Out.seq, Slim.evV, Slim.testV, Slim.ev, Slim.evs, Slim.Res.bind, Slim.Res.of, Slim.Res.out, Slim.lI, Slim.a1, Slim.a2, Slim.rds, Slim.view, Slim.viewAt, Slim.getD, List.append_nil, List.nil_append, List.cons_append, List.getElem?_cons_zero, List.getElem?_cons_succ, Slim.bop, Slim.add_i, Slim.blt, Slim.un, Slim.bi, Slim.intD, Option.map_some, Option.bind_some, Slim.tru, Slim.asgS, Slim.isNew, Slim.aft, Slim.noMut, List.set_cons_zero, List.set_cons_succ, Bool.false_eq_true, if_false, if_true, Slim.cop, Slim.ltI, Slim.max2D, List.contains_cons, List.contains_nil, Nat.reduceBEq, Bool.or_false, Bool.false_or, Bool.or_true, Bool.true_or, Nat.reduceAdd, Nat.zero_add, reduceCtorEq, Option.isSome_some, Option.isSome_none, List.length_cons, List.length_nil, x0, x1, m1, m2, hF, h1, h2, e, outR]
theorem lcross_less (T : Tab S) (fuel : Nat) (x y : Slim.D) (a b c d p q : Int) (g : S.G) (x0 : idxD x (.int 0) = some (.int a)) (x1 : idxD x (.int 1) = some (.int b)) (y0 : idxD y (.int 0) = some (.int c)) (y1 : idxD y (.int 1) = some (.int d))
    (m1 : mulD (.int a) (.int d) = some (.int p)) (m2 : mulD (.int c) (.int b) = some (.int q)) : runF T false 2 fuel t__law_less [x, y] g = .ok (.bool (decide (p < q))) g := by
  show outR (Slim.run T fuel t__law_less [.dat x, .dat y] g) = _
  unfold t__law_less
  simp only [Slim.run, Slim.Out.seq, Slim.evV, Slim.testV, Slim.ev, Slim.evs, Slim.Res.bind, Slim.Res.of, Slim.Res.out, Slim.lI, Slim.a1, Slim.a2, Slim.rds, Slim.view, Slim.viewAt, Slim.getD, List.append_nil, List.nil_append, List.cons_append, List.getElem?_cons_zero, List.getElem?_cons_succ, Slim.bop, Slim.add_i, Slim.blt, Slim.un, Slim.bi, Slim.intD, Option.map_some, Option.bind_some, Slim.tru, Slim.asgS, Slim.isNew, Slim.aft, Slim.noMut, List.set_cons_zero, List.set_cons_succ, Bool.false_eq_true, if_false, if_true, Slim.cop, Slim.ltI, Slim.max2D, List.contains_cons, List.contains_nil, Nat.reduceBEq, Bool.or_false, Bool.false_or, Bool.or_true, Bool.true_or, Nat.reduceAdd, Nat.zero_add, reduceCtorEq, Option.isSome_some, Option.isSome_none, List.length_cons, List.length_nil, x0, x1, y0, y1, m1, m2, outR]
theorem lplus_ok (T : Tab S) {F : FSpec S} (hF : T "_law_over" = some F) (h : FracOk F) (fuel : Nat) : OpOk (S := S) ⟨false, 2, runF T false 2 fuel t__law_plus⟩ (fun a b => a + b) where
  dk := rfl
  n := rfl
  run := fun a b g ha hb => lcross_plus T hF h.dk h.n fuel _ _ _ _ _ _ _ _ _ _ g (fr0 a) (fr1 a) (fr0 b) (fr1 b) (mul_sm ha.num hb.den) (mul_sm hb.num ha.den) (mul_sm ha.den hb.den) fun g => e_plus h ha hb g
theorem lminus_ok (T : Tab S) {F : FSpec S} (hF : T "_law_over" = some F) (h : FracOk F) (fuel : Nat) : OpOk (S := S) ⟨false, 2, runF T false 2 fuel t__law_minus⟩ (fun a b => a - b) where
  dk := rfl
  n := rfl
  run := fun a b g ha hb => lcross_minus T hF h.dk h.n fuel _ _ _ _ _ _ _ _ _ _ g (fr0 a) (fr1 a) (fr0 b) (fr1 b) (mul_sm ha.num hb.den) (mul_sm hb.num ha.den) (mul_sm ha.den hb.den) fun g => e_minus h ha hb g
theorem lless_ok (T : Tab S) (fuel : Nat) : LtOk (S := S) ⟨false, 2, runF T false 2 fuel t__law_less⟩ where
  dk := rfl
  n := rfl
  run := fun a b g ha hb => (lcross_less T fuel _ _ _ _ _ _ _ _ g (fr0 a) (fr1 a) (fr0 b) (fr1 b) (mul_sm ha.num hb.den) (mul_sm hb.num ha.den)).trans (congrArg (fun t => Res.ok (PyData.bool t) g) (decide_eq_decide.mpr (Rat.lt_iff a b).symm))

/-- a fraction times one of two integers -/
structure Op3 (F : FSpec S) : Prop where
  dk : F.dk = false
  n : F.n = 3
  run : ∀ (a : Rat) (t u : Int) (g : S.G), sm a → okI t → (0 < u ∧ u < 2 ^ 60) → F.f [fr a, .int t, .int u] g = .ok (fr (a * t / u)) g
theorem e_over2 {F : FSpec S} (h : FracOk F) {a : Rat} {t u : Int} (ha : sm a) (hu : 0 < u ∧ u < 2 ^ 60) (g : S.G) : F.f [.int (a.num * t), .int ((a.den : Nat) * u)] g = .ok (fr (a * t / u)) g := by
  rw [h.run _ _ g (den_mulI ha hu).1 (den_mulI ha hu).2, over2_eq a t u (by omega)]
theorem ltimes_ok (T : Tab S) {F : FSpec S} (hF : T "_law_over" = some F) (h : FracOk F) (fuel : Nat) : Op3 (S := S) ⟨false, 3, runF T false 3 fuel t__law_times⟩ where
  dk := rfl
  n := rfl
  run := fun a t u g ha ht hu => lside_times T hF h.dk h.n fuel _ _ _ _ _ _ _ _ g (fr0 a) (fr1 a) (mul_sm ha.num ht.small) (mul_sm ha.den (okI.small ⟨by omega, hu.2⟩)) fun g => e_over2 h ha hu g
end
end Law

set_option Elab.async false
set_option linter.all false
set_option maxRecDepth 100000
set_option maxHeartbeats 4000000
/-! W1: what must hold for a run to end well (weakest preconditions over slim texts). -/
namespace Law
open PySem PySem.Spec PyProof.Rows L2 Slim
section
variable {S : GS}
abbrev KX (S : GS) := Str → Slim.D → S.G → Prop
def NX : KX S := fun _ _ _ => False
def RW {α : Type} (r : Res S α) (K : α → S.G → Prop) (X : KX S) : Prop := match r with
  | .ok a g => K a g
  | .ex c t g => X c t g
  | .no => False
def OP {α : Type} (o : Option α) (K : α → Prop) : Prop := match o with
  | some a => K a
  | none => False
def CB (b : Bool) (A B : Prop) : Prop := match b with
  | true => A
  | false => B
def BK (o : Option Bool) (A B : Prop) : Prop := OP o fun b => CB b A B
theorem RW_bind {α β : Type} {r : Res S α} {f : α → S.G → Res S β} {K : β → S.G → Prop} {X : KX S} : RW (r.bind f) K X = RW r (fun a g => RW (f a g) K X) X := by cases r <;> rfl
theorem RW_of {α : Type} {o : Option α} {g : S.G} {K : α → S.G → Prop} {X : KX S} : RW (.of o g) K X = OP o fun a => K a g := by cases o <;> rfl
theorem RW_ok {α : Type} {a : α} {g : S.G} {K : α → S.G → Prop} {X : KX S} : RW (.ok a g) K X = K a g := rfl
theorem RW_no {α : Type} {K : α → S.G → Prop} {X : KX S} : RW (.no : Res S α) K X = False := rfl
theorem RW_mono {α : Type} {r : Res S α} {K K' : α → S.G → Prop} {X X' : KX S} (h : RW r K X) (k : ∀ a g, K a g → K' a g) (x : ∀ c t g, X c t g → X' c t g) : RW r K' X' := by
  cases r with
  | ok a g => exact k a g h
  | ex c t g => exact x c t g h
  | no => exact h
theorem RW_get {α : Type} {r : Res S α} {K : α → S.G → Prop} (h : RW r K NX) : ∃ a g, r = .ok a g ∧ K a g := by
  cases r with
  | ok a g => exact ⟨a, g, rfl, h⟩
  | ex c t g => exact h.elim
  | no => exact h.elim
theorem RW_quiet {α : Type} {r : Res S α} {K : α → S.G → Prop} {X : KX S} : RW r.quiet K X = RW r K NX := by cases r <;> rfl
theorem OP_some {α : Type} {a : α} {K : α → Prop} : OP (some a) K = K a := rfl
theorem OP_none {α : Type} {K : α → Prop} : OP none K = False := rfl
theorem OP_map {α β : Type} {o : Option α} {f : α → β} {K : β → Prop} : OP (o.map f) K = OP o fun a => K (f a) := by cases o <;> rfl
theorem OP_of {α : Type} {o : Option α} {a : α} {K : α → Prop} (h : o = some a) (k : K a) : OP o K := by subst h; exact k
theorem OP_ite {α : Type} {c : Prop} [Decidable c] {a : α} {K : α → Prop} : OP (if c then some a else none) K = (c ∧ K a) := by
  by_cases h : c
  · rw [if_pos h]; exact propext ⟨fun k => ⟨h, k⟩, fun k => k.2⟩
  · rw [if_neg h]; exact propext ⟨fun k => k.elim, fun k => h k.1⟩
theorem BK_some {b : Bool} {A B : Prop} : BK (some b) A B = CB b A B := rfl
theorem CB_true {A B : Prop} : CB true A B = A := rfl
theorem CB_false {A B : Prop} : CB false A B = B := rfl
theorem CB_not {b : Bool} {A B : Prop} : CB (!b) A B = CB b B A := by cases b <;> rfl
theorem CB_and {b c : Bool} {A B : Prop} : CB (b && c) A B = CB b (CB c A B) B := by cases b <;> rfl
theorem CB_or {b c : Bool} {A B : Prop} : CB (b || c) A B = CB b A (CB c A B) := by cases b <;> rfl
theorem CB_b {b : Bool} {A B : Prop} (h1 : b = true → A) (h2 : b = false → B) : CB b A B := by cases b <;> first | exact h1 rfl | exact h2 rfl
theorem CB_i {p : Prop} [Decidable p] {A B : Prop} (h1 : p → A) (h2 : ¬ p → B) : CB (decide p) A B := by
  by_cases h : p
  · rw [decide_eq_true h]; exact h1 h
  · rw [decide_eq_false h]; exact h2 h
theorem CB_t {p : Prop} [Decidable p] {A B : Prop} (h : p) (h1 : A) : CB (decide p) A B := by rw [decide_eq_true h]; exact h1
theorem CB_f {p : Prop} [Decidable p] {A B : Prop} (h : ¬ p) (h1 : B) : CB (decide p) A B := by rw [decide_eq_false h]; exact h1
theorem CB_bne {i j : Int} {A B : Prop} : CB (i != j) A B = CB (decide (i = j)) B A := by
  rw [bne, CB_not]
  congr 1
theorem CB_same {b : Bool} {A : Prop} (h : A) : CB b A A := by cases b <;> exact h
/-! ### the slots that an expression reads -/
structure Ag (rd : List Nat) (τ τ' : Sl) : Prop where
  len : τ.length = τ'.length
  get : ∀ i ∈ rd, getD τ i = getD τ' i
  dk : ∀ j : Nat, τ[j]? = some .dk ↔ τ'[j]? = some .dk
theorem Ag.sub {rd rd' : List Nat} {τ τ' : Sl} (h : Ag rd τ τ') (s : ∀ i ∈ rd', i ∈ rd) : Ag rd' τ τ' := ⟨h.len, fun i hi => h.get i (s i hi), h.dk⟩
theorem getD_set {τ : Sl} {i j : Nat} {sv : SV} : getD (τ.set i sv) j = if i = j ∧ i < τ.length then getD [sv] 0 else getD τ j := by
  unfold getD
  rw [List.getElem?_set]
  by_cases h : i = j
  · subst h
    by_cases h2 : i < τ.length
    · simp [h2]
    · simp [h2]
  · simp [h]
theorem Ag.set {rd : List Nat} {τ τ' : Sl} (h : Ag rd τ τ') (i : Nat) (sv : SV) : Ag rd (τ.set i sv) (τ'.set i sv) := by
  refine ⟨by rw [List.length_set, List.length_set, h.len], fun j hj => ?_, fun j => ?_⟩
  · rw [getD_set, getD_set, h.len, h.get j hj]
  · rw [List.getElem?_set, List.getElem?_set, h.len]
    by_cases e : i = j
    · subst e
      simp
    · simp only [if_neg e]
      exact h.dk j
theorem Ag.wipe {rd : List Nat} {τ τ' : Sl} (h : Ag rd τ τ') : ∀ vs : List Nat, Ag rd (wipeS τ vs) (wipeS τ' vs)
  | [] => h
  | v :: vs => (Ag.wipe h vs).set v .un
mutual
theorem Ag.setT {rd : List Nat} : ∀ (t : Tg) (d : Slim.D) {τ τ' : Sl}, Ag rd τ τ' → Ag rd (Slim.setT t d τ) (Slim.setT t d τ')
  | .nm i, d, _, _, h => h.set i (.dat d)
  | .tp ts, .tuple ds, _, _, h => Ag.setTs ts ds h
  | .tp _, .none, _, _, h => h
  | .tp _, .bool _, _, _, h => h
  | .tp _, .int _, _, _, h => h
  | .tp _, .str _, _, _, h => h
  | .tp _, .list _, _, _, h => h
  | .tp _, .dict _, _, _, h => h
  | .nil, _, _, _, h => h
  | .cons _ _, _, _, _, h => h
theorem Ag.setTs {rd : List Nat} : ∀ (t : Tg) (d : List Slim.D) {τ τ' : Sl}, Ag rd τ τ' → Ag rd (Slim.setTs t d τ) (Slim.setTs t d τ')
  | .cons t ts, d :: ds, _, _, h => Ag.setTs ts ds (Ag.setT t d h)
  | .cons _ _, [], _, _, h => h
  | .nm _, _, _, _, h => h
  | .tp _, _, _, _, h => h
  | .nil, _, _, _, h => h
end
theorem Ag.bind {rd : List Nat} {τ τ' : Sl} (h : Ag rd τ τ') (t : Tg) (d : Slim.D) : (bindT t d τ = none ∧ bindT t d τ' = none) ∨ ∃ u u', bindT t d τ = some u ∧ bindT t d τ' = some u' ∧ Ag rd u u' := by
  unfold bindT
  by_cases c : fitT t d = true
  · rw [if_pos c, if_pos c]
    exact .inr ⟨_, _, rfl, rfl, h.setT t d⟩
  · rw [if_neg c, if_neg c]
    exact .inl ⟨rfl, rfl⟩
end
end Law

set_option Elab.async false
set_option linter.all false
set_option maxRecDepth 100000
set_option maxHeartbeats 4000000
/-! W2: an expression sees the slots that it reads. -/
namespace Law
open PySem PySem.Spec PyProof.Rows L2 Slim
section
variable {S : GS} {T : Tab S}
theorem sub_l {a b : List Nat} : ∀ i ∈ a, i ∈ a ++ b := fun i h => List.mem_append_left _ h
theorem sub_r {a b : List Nat} : ∀ i ∈ b, i ∈ a ++ b := fun i h => List.mem_append_right _ h
theorem dk_match {τ τ' : Sl} {α : Type} (h : ∀ j : Nat, τ[j]? = some SV.dk ↔ τ'[j]? = some SV.dk) (j : Nat) (a b : α) : (match τ[j]? with
    | some .dk => a
    | _ => b) = (match τ'[j]? with
    | some .dk => a
    | _ => b) := by
  have hj := h j
  by_cases e : τ[j]? = some .dk
  · rw [e, hj.mp e]
  · have e' : ¬ τ'[j]? = some .dk := fun z => e (hj.mpr z)
    split
    · rename_i z; exact absurd z e
    · first
        | rfl
        | (split
           · rename_i z; exact absurd z e'
           · rfl)
mutual
theorem ev_ag : ∀ (e : Slim.E) {τ τ' : Sl} (g : S.G), Ag (rds e) τ τ' → ev S T e τ g = ev S T e τ' g
  | .var i, τ, τ', g, h => by simp only [ev, h.get i (by simp [rds])]
  | .glob x, _, _, g, h => rfl
  | .lit d, _, _, g, h => rfl
  | .bin op a b, τ, τ', g, h => by
    have ha := fun g => ev_ag a g (h.sub sub_l)
    have hb := fun g => ev_ag b g (h.sub sub_r)
    simp only [ev, ha, hb]
  | .neg a, τ, τ', g, h => by
    have ha := fun g => ev_ag a g (h.sub fun i z => z)
    simp only [ev, ha]
  | .cmp op a b, τ, τ', g, h => by
    have ha := fun g => ev_ag a g (h.sub sub_l)
    have hb := fun g => ev_ag b g (h.sub sub_r)
    simp only [ev, ha, hb]
  | .chn o1 o2 a b c, τ, τ', g, h => by
    have ha := fun g => ev_ag a g (h.sub fun i z => sub_l i (sub_l i z))
    have hb := fun g => ev_ag b g (h.sub fun i z => sub_l i (sub_r i z))
    have hc := fun g => ev_ag c g (h.sub sub_r)
    simp only [ev, ha, hb, hc]
  | .and as, τ, τ', g, h => by
    have ha := fun g => evb_ag true as g (h.sub fun i z => z)
    simp only [ev, ha]
  | .or as, τ, τ', g, h => by
    have ha := fun g => evb_ag false as g (h.sub fun i z => z)
    simp only [ev, ha]
  | .not a, τ, τ', g, h => by
    have ha := fun g => ev_ag a g (h.sub fun i z => z)
    simp only [ev, ha]
  | .ite c a b, τ, τ', g, h => by
    have hc := fun g => ev_ag c g (h.sub fun i z => sub_l i (sub_l i z))
    have ha := fun g => ev_ag a g (h.sub fun i z => sub_l i (sub_r i z))
    have hb := fun g => ev_ag b g (h.sub sub_r)
    simp only [ev, ha, hb, hc]
  | .tup as, τ, τ', g, h => by
    have ha := fun g => evs_ag as g (h.sub fun i z => z)
    simp only [ev, ha]
  | .lst as, τ, τ', g, h => by
    have ha := fun g => evs_ag as g (h.sub fun i z => z)
    simp only [ev, ha]
  | .nil, _, _, g, h => rfl
  | .cons _ _, _, _, g, h => rfl
  | .idx a b, τ, τ', g, h => by
    have ha := fun g => ev_ag a g (h.sub sub_l)
    have hb := fun g => ev_ag b g (h.sub sub_r)
    simp only [ev, ha, hb]
  | .slc a lo hi, τ, τ', g, h => by
    have ha := fun g => ev_ag a g (h.sub fun i z => sub_l i (sub_l i z))
    have hb := fun g => evo_ag lo g (h.sub fun i z => sub_l i (sub_r i z))
    have hc := fun g => evo_ag hi g (h.sub sub_r)
    simp only [ev, ha, hb, hc]
  | .rev a, τ, τ', g, h => by
    have ha := fun g => ev_ag a g (h.sub fun i z => z)
    simp only [ev, ha]
  | .call f dk as, τ, τ', g, h => by
    have ha := fun g => evs_ag as g (h.sub fun i z => z)
    simp only [ev, ha]
    cases T f with
    | none => rfl
    | some F =>
      cases dk with
      | none => rfl
      | some j =>
        simp only
        split
        · exact dk_match h.dk j _ _
        · rfl
  | .callk f ks perm as, τ, τ', g, h => by
    have ha := fun g => evs_ag as g (h.sub fun i z => z)
    simp only [ev, ha]
  | .blt f as, τ, τ', g, h => by
    have ha := fun g => evs_ag as g (h.sub fun i z => z)
    simp only [ev, ha]
  | .isa t a, τ, τ', g, h => by
    have ha := fun g => ev_ag a g (h.sub fun i z => z)
    simp only [ev, ha]
  | .comp own tg it c el, τ, τ', g, h => by
    have hi := fun g => evi_ag it g (h.sub fun i z => sub_l i (sub_l i z))
    simp only [ev, hi]
    refine congrArg _ (funext fun items => funext fun g => ?_)
    by_cases hl : items.length < lim
    · rw [if_pos hl, if_pos hl]
      refine congrArg Res.quiet (congrArg (fun r => Res.bind r _) ?_)
      refine congrFun (congrFun (congrArg compGo (funext fun d => funext fun g => ?_)) _) _
      rcases (h.wipe own).bind tg d with ⟨e1, e2⟩ | ⟨u, u', e1, e2, hu⟩
      · rw [e1, e2]
      · have hc := fun g => ev_ag c g (hu.sub fun i z => sub_l i (sub_r i z))
        have he := fun g => ev_ag el g (hu.sub sub_r)
        simp only [e1, e2, hc, he]
    · rw [if_neg hl, if_neg hl]
  | .rng1 a, _, _, g, h => rfl
  | .rng2 a b, _, _, g, h => rfl
  | .enm a, _, _, g, h => rfl
  | .zp a b, _, _, g, h => rfl
  | .scut j n, τ, τ', g, h => by
    simp only [ev]
    exact dk_match h.dk j _ _
  | .gget j key, τ, τ', g, h => by
    simp only [ev]
    exact dk_match h.dk j _ _
  | .gne j key, τ, τ', g, h => by
    simp only [ev]
    exact dk_match h.dk j _ _
  | .gpop j key, τ, τ', g, h => by
    simp only [ev]
    exact dk_match h.dk j _ _
  | .gapp j key a, τ, τ', g, h => by
    have ha := fun g => ev_ag a g (h.sub fun i z => z)
    simp only [ev, ha]
    exact dk_match h.dk j _ _
theorem evs_ag : ∀ (e : Slim.E) {τ τ' : Sl} (g : S.G), Ag (rds e) τ τ' → evs S T e τ g = evs S T e τ' g
  | .nil, _, _, g, h => rfl
  | .cons a as, τ, τ', g, h => by
    have ha := fun g => ev_ag a g (h.sub sub_l)
    have hb := fun g => evs_ag as g (h.sub sub_r)
    simp only [evs, ha, hb]
  | .var _, _, _, g, h | .glob _, _, _, g, h | .lit _, _, _, g, h | .bin _ _ _, _, _, g, h | .neg _, _, _, g, h | .cmp _ _ _, _, _, g, h | .chn _ _ _ _ _, _, _, g, h | .and _, _, _, g, h | .or _, _, _, g, h | .not _, _, _, g, h
  | .ite _ _ _, _, _, g, h | .tup _, _, _, g, h | .lst _, _, _, g, h | .idx _ _, _, _, g, h | .slc _ _ _, _, _, g, h | .rev _, _, _, g, h | .call _ _ _, _, _, g, h | .callk _ _ _ _, _, _, g, h | .blt _ _, _, _, g, h | .isa _ _, _, _, g, h
  | .comp _ _ _ _ _, _, _, g, h | .rng1 _, _, _, g, h | .rng2 _ _, _, _, g, h | .enm _, _, _, g, h | .zp _ _, _, _, g, h | .scut _ _, _, _, g, h | .gget _ _, _, _, g, h | .gne _ _, _, _, g, h | .gpop _ _, _, _, g, h | .gapp _ _ _, _, _, g, h => rfl
theorem evb_ag (k : Bool) : ∀ (e : Slim.E) {τ τ' : Sl} (g : S.G), Ag (rds e) τ τ' → evb S T k e τ g = evb S T k e τ' g
  | .cons a as, τ, τ', g, h => by
    have ha := fun g => ev_ag a g (h.sub sub_l)
    have hb := fun g => evb_ag k as g (h.sub sub_r)
    cases as
    case nil => simp only [evb, ha]
    all_goals simp only [evb, ha, hb]
  | .nil, _, _, g, h => rfl
  | .var _, _, _, g, h | .glob _, _, _, g, h | .lit _, _, _, g, h | .bin _ _ _, _, _, g, h | .neg _, _, _, g, h | .cmp _ _ _, _, _, g, h | .chn _ _ _ _ _, _, _, g, h | .and _, _, _, g, h | .or _, _, _, g, h | .not _, _, _, g, h
  | .ite _ _ _, _, _, g, h | .tup _, _, _, g, h | .lst _, _, _, g, h | .idx _ _, _, _, g, h | .slc _ _ _, _, _, g, h | .rev _, _, _, g, h | .call _ _ _, _, _, g, h | .callk _ _ _ _, _, _, g, h | .blt _ _, _, _, g, h | .isa _ _, _, _, g, h
  | .comp _ _ _ _ _, _, _, g, h | .rng1 _, _, _, g, h | .rng2 _ _, _, _, g, h | .enm _, _, _, g, h | .zp _ _, _, _, g, h | .scut _ _, _, _, g, h | .gget _ _, _, _, g, h | .gne _ _, _, _, g, h | .gpop _ _, _, _, g, h | .gapp _ _ _, _, _, g, h => rfl
theorem evo_ag : ∀ (e : Slim.E) {τ τ' : Sl} (g : S.G), Ag (rds e) τ τ' → evo S T e τ g = evo S T e τ' g
  | .nil, _, _, g, h => rfl
  | .cons a as, τ, τ', g, h => by
    have ha := fun g => ev_ag a g (h.sub sub_l)
    simp only [evo, ha]
  | .var _, _, _, g, h | .glob _, _, _, g, h | .lit _, _, _, g, h | .bin _ _ _, _, _, g, h | .neg _, _, _, g, h | .cmp _ _ _, _, _, g, h | .chn _ _ _ _ _, _, _, g, h | .and _, _, _, g, h | .or _, _, _, g, h | .not _, _, _, g, h
  | .ite _ _ _, _, _, g, h | .tup _, _, _, g, h | .lst _, _, _, g, h | .idx _ _, _, _, g, h | .slc _ _ _, _, _, g, h | .rev _, _, _, g, h | .call _ _ _, _, _, g, h | .callk _ _ _ _, _, _, g, h | .blt _ _, _, _, g, h | .isa _ _, _, _, g, h
  | .comp _ _ _ _ _, _, _, g, h | .rng1 _, _, _, g, h | .rng2 _ _, _, _, g, h | .enm _, _, _, g, h | .zp _ _, _, _, g, h | .scut _ _, _, _, g, h | .gget _ _, _, _, g, h | .gne _ _, _, _, g, h | .gpop _ _, _, _, g, h | .gapp _ _ _, _, _, g, h => rfl
theorem evi_ag : ∀ (e : Slim.E) {τ τ' : Sl} (g : S.G), Ag (rds e) τ τ' → evi S T e τ g = evi S T e τ' g
  | .rng1 a, τ, τ', g, h => by
    have ha := fun g => ev_ag a g (h.sub fun i z => z)
    simp only [evi, ha]
  | .rng2 a b, τ, τ', g, h => by
    have ha := fun g => ev_ag a g (h.sub sub_l)
    have hb := fun g => ev_ag b g (h.sub sub_r)
    simp only [evi, ha, hb]
  | .enm as, τ, τ', g, h => by
    have ha := fun g => evs_ag as g (h.sub fun i z => z)
    simp only [evi, ha]
  | .zp a b, τ, τ', g, h => by
    have ha := fun g => ev_ag a g (h.sub sub_l)
    have hb := fun g => ev_ag b g (h.sub sub_r)
    simp only [evi, ha, hb]
  | .cons a _, τ, τ', g, h => by
    have ha := fun g => ev_ag a g (h.sub sub_l)
    simp only [evi, ha]
  | .nil, _, _, g, h => rfl
  | .var _, _, _, g, h | .glob _, _, _, g, h | .lit _, _, _, g, h | .bin _ _ _, _, _, g, h | .neg _, _, _, g, h | .cmp _ _ _, _, _, g, h | .chn _ _ _ _ _, _, _, g, h | .and _, _, _, g, h | .or _, _, _, g, h | .not _, _, _, g, h
  | .ite _ _ _, _, _, g, h | .tup _, _, _, g, h | .lst _, _, _, g, h | .idx _ _, _, _, g, h | .slc _ _ _, _, _, g, h | .rev _, _, _, g, h | .call _ _ _, _, _, g, h | .callk _ _ _ _, _, _, g, h | .blt _ _, _, _, g, h | .isa _ _, _, _, g, h
  | .comp _ _ _ _ _, _, _, g, h | .scut _ _, _, _, g, h | .gget _ _, _, _, g, h | .gne _ _, _, _, g, h | .gpop _ _, _, _, g, h | .gapp _ _ _, _, _, g, h => rfl
end
theorem viewAt_len (rd : List Nat) : ∀ (i : Nat) (τ : Sl), (viewAt rd i τ).length = τ.length
  | _, [] => rfl
  | i, sv :: r => by
    have := viewAt_len rd (i + 1) r
    cases sv <;> simp only [viewAt, List.length_cons, this]
theorem viewAt_get (rd : List Nat) : ∀ (i : Nat) (τ : Sl) (j : Nat), (viewAt rd i τ)[j]? = (τ[j]?).map fun sv => match sv with
    | .own ds => if rd.contains (i + j) then .dat (.list ds) else .un
    | x => x
  | _, [], j => by simp [viewAt]
  | i, sv :: r, 0 => by
    cases sv <;> simp only [viewAt, List.getElem?_cons_zero, Option.map_some, Nat.add_zero]
  | i, sv :: r, j + 1 => by
    have := viewAt_get rd (i + 1) r j
    rw [show i + 1 + j = i + (j + 1) by omega] at this
    cases sv <;> simp only [viewAt, List.getElem?_cons_succ, this]
theorem Ag.view (rd : List Nat) (τ : Sl) : Ag rd (Slim.view rd τ) τ := by
  refine ⟨viewAt_len _ _ _, fun i hi => ?_, fun j => ?_⟩
  · unfold Slim.view getD
    rw [viewAt_get]
    cases e : τ[i]? with
    | none => rfl
    | some sv =>
      have hc : rd.contains (0 + i) = true := by rw [Nat.zero_add]; exact List.contains_iff_mem.mpr hi
      cases sv with
      | own ds => simp only [Option.map_some, hc, if_true]
      | un => rfl
      | dat _ => rfl
      | dk => rfl
  · unfold Slim.view
    rw [viewAt_get]
    cases e : τ[j]? with
    | none => simp
    | some sv =>
      cases sv with
      | own ds =>
        rw [Option.map_some]
        by_cases c : rd.contains (0 + j) = true
        · simp only [c, if_true]; simp
        · simp only [c, if_false]; simp
      | un => simp
      | dat _ => simp
      | dk => simp
theorem evV_eq (e : Slim.E) (τ : Sl) (g : S.G) : evV T e τ g = ev S T e τ g := ev_ag e g (Ag.view _ τ)
theorem evsV_eq (e : Slim.E) (τ : Sl) (g : S.G) : evs S T e (Slim.view (rds e) τ) g = evs S T e τ g := evs_ag e g (Ag.view _ τ)
theorem eviV_eq (e : Slim.E) (τ : Sl) (g : S.G) : evi S T e (Slim.view (rds e) τ) g = evi S T e τ g := evi_ag e g (Ag.view _ τ)
end
end Law

set_option Elab.async false
set_option linter.all false
set_option maxRecDepth 100000
set_option maxHeartbeats 4000000
/-! W3: the rules. -/
namespace Law
open PySem PySem.Spec PyProof.Rows L2 Slim
section
variable {S : GS}
variable (T : Tab S)
def W (e : Slim.E) (τ : Sl) (g : S.G) (K : Slim.D → S.G → Prop) (X : KX S) : Prop := RW (ev S T e τ g) K X
def Ws (e : Slim.E) (τ : Sl) (g : S.G) (K : List Slim.D → S.G → Prop) (X : KX S) : Prop := RW (evs S T e τ g) K X
def Wb (k : Bool) (e : Slim.E) (τ : Sl) (g : S.G) (K : Slim.D → S.G → Prop) (X : KX S) : Prop := RW (evb S T k e τ g) K X
def Wo (e : Slim.E) (τ : Sl) (g : S.G) (K : Option Int → S.G → Prop) (X : KX S) : Prop := RW (evo S T e τ g) K X
def Wi (e : Slim.E) (τ : Sl) (g : S.G) (K : List Slim.D → S.G → Prop) (X : KX S) : Prop := RW (evi S T e τ g) K X

/-- a call -/
def CallW (f : Str) (ds : List Slim.D) (g : S.G) (K : Slim.D → S.G → Prop) (X : KX S) : Prop := match T f with
  | none => False
  | some F => ds.length = F.n ∧ RW (F.f ds g) K X
def HasT (f : Str) (dk : Bool) : Prop := match T f with
  | none => False
  | some F => F.dk = dk

/-- one item of a comprehension -/
def BD (own : List Nat) (tg : Tg) (c el : Slim.E) (τ : Sl) (d : Slim.D) (g : S.G) (K : Option Slim.D → S.G → Prop) (X : KX S) : Prop :=
  OP (bindT tg d (wipeS τ own)) fun τ' => W T c τ' g (fun x g => BK (tru x) (W T el τ' g (fun y g => K (some y) g) X) (K none g)) X
def bdF (own : List Nat) (tg : Tg) (c el : Slim.E) (τ : Sl) : Slim.D → S.G → Res S (Option Slim.D) := fun d g => match bindT tg d (wipeS τ own) with
  | none => .no
  | some τ' => (ev S T c τ' g).bind fun x g => match tru x with
    | some true => (ev S T el τ' g).bind fun y g => .ok (some y) g
    | some false => .ok none g
    | none => .no
def CW (own : List Nat) (tg : Tg) (c el : Slim.E) (τ : Sl) (items : List Slim.D) (g : S.G) (K : List Slim.D → S.G → Prop) : Prop := RW (compGo (bdF T own tg c el τ) items g) K NX
end
section
variable {S : GS} {T : Tab S} {τ : Sl} {g : S.G} {K : Slim.D → S.G → Prop} {X : KX S}
theorem W_var {i : Nat} : W T (.var i) τ g K X = OP (getD τ i) fun d => K d g := by unfold W; rw [ev, RW_of]
theorem W_lit {d : Slim.D} : W T (.lit d) τ g K X = K d g := rfl
theorem W_glob {x : Str} : W T (.glob x) τ g K X = OP (S.cs x) fun p => K p.2 g := by unfold W; rw [ev, RW_of, OP_map]
theorem W_bin {op : Bop} {a b : Slim.E} : W T (.bin op a b) τ g K X = W T a τ g (fun x g => W T b τ g (fun y g => OP (bop op x y) fun d => K d g) X) X := by
  unfold W; simp only [ev, RW_bind, RW_of]
def NG (d : Slim.D) (K : Slim.D → Prop) : Prop := match d with
  | .int i => K (.int (-i))
  | _ => False
theorem NG_int {i : Int} {K : Slim.D → Prop} : NG (.int i) K = K (.int (-i)) := rfl
theorem W_neg {a : Slim.E} : W T (.neg a) τ g K X = W T a τ g (fun x g => NG x fun d => K d g) X := by
  unfold W; simp only [ev, RW_bind]
  congr 1; funext x g; cases x <;> rfl
theorem W_cmp {op : Cop} {a b : Slim.E} : W T (.cmp op a b) τ g K X = W T a τ g (fun x g => W T b τ g (fun y g => OP (cop op x y) fun b => K (.bool b) g) X) X := by
  unfold W; simp only [ev, RW_bind, RW_of, OP_map]
theorem W_chn {o1 o2 : Cop} {a b c : Slim.E} : W T (.chn o1 o2 a b c) τ g K X = W T a τ g (fun x g => W T b τ g (fun y g => BK (cop o1 x y) (W T c τ g (fun z g => OP (cop o2 y z) fun b => K (.bool b) g) X) (K (.bool false) g)) X) X := by
  unfold W; simp only [ev, RW_bind]
  congr 1; funext x g; congr 1; funext y g
  cases cop o1 x y with
  | none => rfl
  | some b => cases b with
    | false => rfl
    | true =>
      show RW ((ev S T c τ g).bind _) K X = W T c τ g _ X
      unfold W
      simp only [RW_bind, RW_of, OP_map]
theorem W_and {as : Slim.E} : W T (.and as) τ g K X = Wb T true as τ g K X := by unfold W Wb; rw [ev]
theorem W_or {as : Slim.E} : W T (.or as) τ g K X = Wb T false as τ g K X := by unfold W Wb; rw [ev]
theorem Wb_one {k : Bool} {a : Slim.E} : Wb T k (.cons a .nil) τ g K X = W T a τ g K X := by unfold W Wb; rw [evb]
theorem Wb_and {a b r : Slim.E} : Wb T true (.cons a (.cons b r)) τ g K X = W T a τ g (fun x g => BK (tru x) (Wb T true (.cons b r) τ g K X) (K x g)) X := by
  unfold Wb W; rw [evb.eq_2 _ _ _ _ _ _ _ (by intro z; cases z)]
  simp only [RW_bind]
  congr 1; funext x g
  cases tru x with
  | none => rfl
  | some b => cases b <;> rfl
theorem Wb_or {a b r : Slim.E} : Wb T false (.cons a (.cons b r)) τ g K X = W T a τ g (fun x g => BK (tru x) (K x g) (Wb T false (.cons b r) τ g K X)) X := by
  unfold Wb W; rw [evb.eq_2 _ _ _ _ _ _ _ (by intro z; cases z)]
  simp only [RW_bind]
  congr 1; funext x g
  cases tru x with
  | none => rfl
  | some b => cases b <;> rfl
theorem W_not {a : Slim.E} : W T (.not a) τ g K X = W T a τ g (fun x g => OP (tru x) fun b => K (.bool !b) g) X := by
  unfold W; simp only [ev, RW_bind, RW_of, OP_map]
theorem W_ite {c a b : Slim.E} : W T (.ite c a b) τ g K X = W T c τ g (fun x g => BK (tru x) (W T a τ g K X) (W T b τ g K X)) X := by
  unfold W; simp only [ev, RW_bind]
  congr 1; funext x g
  cases tru x with
  | none => rfl
  | some b => cases b <;> rfl
theorem RW_if {α : Type} {c : Prop} [Decidable c] {a : α} {g : S.G} {K : α → S.G → Prop} : RW (if c then .ok a g else .no) K X = (c ∧ K a g) := by
  by_cases h : c
  · rw [if_pos h]; exact propext ⟨fun k => ⟨h, k⟩, fun k => k.2⟩
  · rw [if_neg h]; exact propext ⟨fun k => k.elim, fun k => h k.1⟩
theorem RW_ifr {α : Type} {c : Prop} [Decidable c] {r : Res S α} {K : α → S.G → Prop} : RW (if c then r else .no) K X = (c ∧ RW r K X) := by
  by_cases h : c
  · rw [if_pos h]; exact propext ⟨fun k => ⟨h, k⟩, fun k => k.2⟩
  · rw [if_neg h]; exact propext ⟨fun k => k.elim, fun k => h k.1⟩
theorem W_tup {as : Slim.E} : W T (.tup as) τ g K X = Ws T as τ g (fun ds g => ds.length ≤ lim ∧ K (.tuple ds) g) X := by
  unfold W Ws; simp only [ev, RW_bind, RW_if]
theorem W_lst {as : Slim.E} : W T (.lst as) τ g K X = Ws T as τ g (fun ds g => ds.length ≤ lim ∧ K (.list ds) g) X := by
  unfold W Ws; simp only [ev, RW_bind, RW_if]
theorem W_idx {a b : Slim.E} : W T (.idx a b) τ g K X = W T a τ g (fun x g => W T b τ g (fun y g => OP (idxD x y) fun d => K d g) X) X := by
  unfold W; simp only [ev, RW_bind, RW_of]
theorem W_slc {a lo hi : Slim.E} : W T (.slc a lo hi) τ g K X = W T a τ g (fun x g => Wo T lo τ g (fun l g => Wo T hi τ g (fun h g => OP (slcD x l h) fun d => K d g) X) X) X := by
  unfold W Wo; simp only [ev, RW_bind, RW_of]
def RV (d : Slim.D) (K : Slim.D → Prop) : Prop := match d with
  | .list xs => K (.list xs.reverse)
  | .tuple xs => K (.tuple xs.reverse)
  | _ => False
theorem RV_l {xs : List Slim.D} {K : Slim.D → Prop} : RV (.list xs) K = K (.list xs.reverse) := rfl
theorem RV_t {xs : List Slim.D} {K : Slim.D → Prop} : RV (.tuple xs) K = K (.tuple xs.reverse) := rfl
theorem W_rev {a : Slim.E} : W T (.rev a) τ g K X = W T a τ g (fun x g => RV x fun d => K d g) X := by
  unfold W; simp only [ev, RW_bind]
  congr 1; funext x g; cases x <;> rfl
theorem W_blt {f : Bl} {as : Slim.E} : W T (.blt f as) τ g K X = Ws T as τ g (fun ds g => OP (blt f ds) fun d => K d g) X := by
  unfold W Ws; simp only [ev, RW_bind, RW_of]
theorem W_isa {t : Ty} {a : Slim.E} : W T (.isa t a) τ g K X = W T a τ g (fun x g => K (.bool (isaD t x)) g) X := by
  unfold W; simp only [ev, RW_bind, RW_ok]
theorem Ws_nil {K : List Slim.D → S.G → Prop} : Ws T .nil τ g K X = K [] g := rfl
theorem Ws_cons {a as : Slim.E} {K : List Slim.D → S.G → Prop} : Ws T (.cons a as) τ g K X = W T a τ g (fun x g => Ws T as τ g (fun xs g => K (x :: xs) g) X) X := by
  unfold Ws W; simp only [evs, RW_bind, RW_ok]
theorem Wo_nil {K : Option Int → S.G → Prop} : Wo T .nil τ g K X = K none g := rfl
def IN (d : Slim.D) (K : Int → Prop) : Prop := match d with
  | .int i => K i
  | _ => False
theorem IN_int {i : Int} {K : Int → Prop} : IN (.int i) K = K i := rfl
theorem Wo_cons {a r : Slim.E} {K : Option Int → S.G → Prop} : Wo T (.cons a r) τ g K X = W T a τ g (fun x g => IN x fun i => K (some i) g) X := by
  unfold Wo W; simp only [evo, RW_bind]
  congr 1; funext x g; cases x <;> rfl

/-- a call -/
theorem W_call0 {f : Str} {as : Slim.E} : W T (.call f none as) τ g K X = (HasT T f false ∧ Ws T as τ g (fun ds g => CallW T f ds g K X) X) := by
  unfold W HasT
  rw [ev]
  unfold Ws CallW
  cases e : T f with
  | none => exact propext ⟨fun z => z.elim, fun z => z.1.elim⟩
  | some F =>
    simp only [Option.isSome_none, RW_ifr, RW_bind]
def IsDk (o : Option SV) : Prop := match o with
  | some .dk => True
  | _ => False
theorem IsDk_dk : IsDk (some .dk) = True := rfl
theorem W_call1 {f : Str} {j : Nat} {as : Slim.E} : W T (.call f (some j) as) τ g K X = (HasT T f true ∧ IsDk τ[j]? ∧ Ws T as τ g (fun ds g => CallW T f ds g K X) X) := by
  unfold W HasT
  rw [ev]
  unfold Ws CallW
  cases e : T f with
  | none => exact propext ⟨fun z => z.elim, fun z => z.1.elim⟩
  | some F =>
    simp only [Option.isSome_some, RW_ifr, RW_bind]
    refine congrArg _ ?_
    generalize τ[j]? = o
    unfold IsDk
    match o with
    | some .dk => simp only [RW_bind, RW_ifr, true_and]
    | none => exact propext ⟨fun z => z.elim, fun z => z.1.elim⟩
    | some .un => exact propext ⟨fun z => z.elim, fun z => z.1.elim⟩
    | some (.dat _) => exact propext ⟨fun z => z.elim, fun z => z.1.elim⟩
    | some (.own _) => exact propext ⟨fun z => z.elim, fun z => z.1.elim⟩
theorem W_callk {f : Str} {ks : List Str} {perm : List Nat} {as : Slim.E} : W T (.callk f ks perm as) τ g K X = (HasT T f false ∧ Ws T as τ g (fun ds g => ds.length = perm.length ∧ CallW T f (permL perm ds) g K X) X) := by
  unfold W HasT
  rw [ev]
  unfold Ws CallW
  cases e : T f with
  | none => exact propext ⟨fun z => z.elim, fun z => z.1.elim⟩
  | some F =>
    simp only [RW_ifr, RW_bind]
    refine congrArg _ ?_
    congr 1; funext ds g
    have hl : (permL perm ds).length = perm.length := by unfold permL; rw [List.length_map]
    rw [hl]
    refine propext ⟨fun ⟨⟨a, b⟩, c⟩ => ⟨by omega, b, c⟩, fun ⟨a, b, c⟩ => ⟨⟨by omega, b⟩, c⟩⟩
theorem W_comp {own : List Nat} {tg : Tg} {it c el : Slim.E} : W T (.comp own tg it c el) τ g K X = Wi T it τ g (fun items g => items.length < lim ∧ CW T own tg c el τ items g (fun ys g => K (.list ys) g)) X := by
  unfold W Wi CW
  simp only [ev, RW_bind, RW_ifr, RW_quiet, RW_ok]
  rfl
theorem CW_nil {own : List Nat} {tg : Tg} {c el : Slim.E} {K : List Slim.D → S.G → Prop} : CW T own tg c el τ [] g K = K [] g := rfl
theorem RW_bdF {own : List Nat} {tg : Tg} {c el : Slim.E} {d : Slim.D} {K : Option Slim.D → S.G → Prop} : RW (bdF T own tg c el τ d g) K X = BD T own tg c el τ d g K X := by
  unfold bdF BD
  cases bindT tg d (wipeS τ own) with
  | none => rfl
  | some τ' =>
    show RW ((ev S T c τ' g).bind _) K X = W T c τ' g _ X
    unfold W
    rw [RW_bind]
    congr 1; funext x g
    cases tru x with
    | none => rfl
    | some b => cases b with
      | false => rfl
      | true =>
        show RW ((ev S T el τ' g).bind _) K X = RW (ev S T el τ' g) _ X
        rw [RW_bind]
        rfl
theorem CW_cons {own : List Nat} {tg : Tg} {c el : Slim.E} {d : Slim.D} {ds : List Slim.D} {K : List Slim.D → S.G → Prop} : CW T own tg c el τ (d :: ds) g K = BD T own tg c el τ d g (fun o g => match o with
    | some y => CW T own tg c el τ ds g fun ys g => K (y :: ys) g
    | none => CW T own tg c el τ ds g K) NX := by
  unfold CW
  rw [compGo, RW_bind, RW_bdF]
  congr 1; funext o g
  cases o with
  | none => rfl
  | some y => simp only [RW_bind, RW_ok]

/-- a comprehension that draws nothing -/
theorem CW_pure {α : Type} {k : α → Slim.D} {ψ : α → Option Slim.D} {own : List Nat} {tg : Tg} {c el : Slim.E} : ∀ {as : List α} {K : List Slim.D → S.G → Prop}, (∀ a ∈ as, ∀ K' : Option Slim.D → S.G → Prop, K' (ψ a) g → BD T own tg c el τ (k a) g K' NX) → K (as.filterMap ψ) g → CW T own tg c el τ (as.map k) g K
  | [], K, _, h => h
  | a :: as, K, hf, h => by
    rw [List.map_cons, CW_cons]
    refine hf a (List.mem_cons_self ..) _ ?_
    rw [List.filterMap_cons] at h
    cases e : ψ a with
    | none =>
      rw [e] at h
      exact CW_pure (fun b hb => hf b (List.mem_cons_of_mem _ hb)) h
    | some y =>
      rw [e] at h
      exact CW_pure (K := fun ys g => K (y :: ys) g) (fun b hb => hf b (List.mem_cons_of_mem _ hb)) h
theorem fm_id {α β : Type} {ψ : α → β} {as : List α} : (as.filterMap fun a => some (ψ a)) = as.map ψ := by
  induction as with
  | nil => rfl
  | cons a as ih => rw [List.filterMap_cons, List.map_cons, ih]
theorem CW_map {α : Type} {k : α → Slim.D} {φ : α → Slim.D} {own : List Nat} {tg : Tg} {c el : Slim.E} {as : List α} {K : List Slim.D → S.G → Prop} (hf : ∀ a ∈ as, ∀ K' : Option Slim.D → S.G → Prop, K' (some (φ a)) g → BD T own tg c el τ (k a) g K' NX) (h : K (as.map φ) g) : CW T own tg c el τ (as.map k) g K :=
  CW_pure (ψ := fun a => some (φ a)) hf (by rw [fm_id]; exact h)
theorem fm_if {α β : Type} {p : α → Bool} {φ : α → β} {as : List α} : (as.filterMap fun a => if p a = true then some (φ a) else none) = (as.filter p).map φ := by
  induction as with
  | nil => rfl
  | cons a as ih =>
    rw [List.filterMap_cons, List.filter_cons, ih]
    cases p a <;> rfl
theorem CW_filter {α : Type} {k : α → Slim.D} (p : α → Bool) {φ : α → Slim.D} {own : List Nat} {tg : Tg} {c el : Slim.E} {as : List α} {K : List Slim.D → S.G → Prop} (hf : ∀ a ∈ as, ∀ K' : Option Slim.D → S.G → Prop, (p a = true → K' (some (φ a)) g) → (p a = false → K' none g) → BD T own tg c el τ (k a) g K' NX) (h : K ((as.filter p).map φ) g) : CW T own tg c el τ (as.map k) g K :=
  CW_pure (ψ := fun a => if p a = true then some (φ a) else none) (fun a ha K' hk => hf a ha K' (fun e => by rw [if_pos e] at hk; exact hk) (fun e => by rw [if_neg (by rw [e]; decide)] at hk; exact hk)) (by rw [fm_if]; exact h)

/-- a comprehension that draws -/
inductive Rl2 {α β : Type} (R : α → β → Prop) : List α → List β → Prop
  | nil : Rl2 R [] []
  | cons {a : α} {b : β} {as : List α} {bs : List β} : R a b → Rl2 R as bs → Rl2 R (a :: as) (b :: bs)
theorem Rl2.all {α β : Type} {R : α → β → Prop} {Q : β → Prop} (h : ∀ a b, R a b → Q b) : ∀ {as : List α} {bs : List β}, Rl2 R as bs → ∀ b ∈ bs, Q b
  | _, _, .nil, _, hb => (List.not_mem_nil hb).elim
  | _, _, .cons x r, b, hb => by
    rcases List.mem_cons.mp hb with rfl | hb
    · exact h _ _ x
    · exact Rl2.all h r b hb
theorem Rl2.length {α β : Type} {R : α → β → Prop} : ∀ {as : List α} {bs : List β}, Rl2 R as bs → bs.length = as.length
  | _, _, .nil => rfl
  | _, _, .cons _ r => by rw [List.length_cons, List.length_cons, Rl2.length r]
theorem CW_draw {α β : Type} (l : β → Slim.D) (R : α → β → Prop) (I : S.G → Prop) {k : α → Slim.D} {own : List Nat} {tg : Tg} {c el : Slim.E} : ∀ {as : List α} {g : S.G} {K : List Slim.D → S.G → Prop}, I g → (∀ a ∈ as, ∀ g, I g → ∀ K' : Option Slim.D → S.G → Prop, (∀ b g', R a b → I g' → K' (some (l b)) g') → BD T own tg c el τ (k a) g K' NX) →
    (∀ bs g', Rl2 R as bs → I g' → K (bs.map l) g') → CW T own tg c el τ (as.map k) g K
  | [], g, K, hi, _, h => h [] g .nil hi
  | a :: as, g, K, hi, hf, h => by
    rw [List.map_cons, CW_cons]
    refine hf a (List.mem_cons_self ..) g hi _ fun b g' r i => ?_
    exact CW_draw l R I (K := fun ys g => K (l b :: ys) g) i (fun b hb => hf b (List.mem_cons_of_mem _ hb)) fun bs g' r' i' => h (b :: bs) g' (.cons r r') i'
/-! what a loop goes over -/
theorem Wi_rng1 {a : Slim.E} {K : List Slim.D → S.G → Prop} : Wi T (.rng1 a) τ g K X = W T a τ g (fun x g => IN x fun n => (n < lim ∧ -(lim : Int) < n) ∧ K ((List.range n.toNat).map fun i => .int (i : Nat)) g) X := by
  unfold Wi W; simp only [evi, RW_bind]
  congr 1; funext x g; cases x <;> first | rfl | exact RW_if
theorem Wi_rng2 {a b : Slim.E} {K : List Slim.D → S.G → Prop} : Wi T (.rng2 a b) τ g K X = W T a τ g (fun x g => W T b τ g (fun y g => IN x fun i => IN y fun j => ((-(lim : Int) < i ∧ i < lim) ∧ (-(lim : Int) < j ∧ j < lim)) ∧ K ((List.range (j - i).toNat).map fun k => .int (i + (k : Nat))) g) X) X := by
  unfold Wi W; simp only [evi, RW_bind]
  congr 1; funext x g; congr 1; funext y g; cases x <;> cases y <;> first | rfl | exact RW_if
def SEQ (d : Slim.D) (K : List Slim.D → Prop) : Prop := match d with
  | .list xs => K xs
  | .tuple xs => K xs
  | _ => False
theorem SEQ_l {xs : List Slim.D} {K : List Slim.D → Prop} : SEQ (.list xs) K = K xs := rfl
theorem SEQ_t {xs : List Slim.D} {K : List Slim.D → Prop} : SEQ (.tuple xs) K = K xs := rfl
theorem RW_seqR {d : Slim.D} {K : List Slim.D → S.G → Prop} : RW (seqR d g) K X = SEQ d fun xs => K xs g := by cases d <;> rfl
theorem Wi_zp {a b : Slim.E} {K : List Slim.D → S.G → Prop} : Wi T (.zp a b) τ g K X = W T a τ g (fun x g => W T b τ g (fun y g => SEQ x fun xs => SEQ y fun ys => K ((xs.zip ys).map fun p => .tuple [p.1, p.2]) g) X) X := by
  unfold Wi W; simp only [evi, RW_bind, RW_seqR, RW_ok]
theorem Wi_cons {a r : Slim.E} {K : List Slim.D → S.G → Prop} : Wi T (.cons a r) τ g K X = W T a τ g (fun x g => SEQ x fun xs => K xs g) X := by
  unfold Wi W; simp only [evi, RW_bind, RW_seqR]
def ENM (zs : List Slim.D) (K : List Slim.D → Prop) : Prop := match zs with
  | [x] => SEQ x fun xs => K (xs.zipIdx.map fun p => .tuple [.int (0 + (p.2 : Nat)), p.1])
  | [x, .int k] => (-(2 ^ 62) < k ∧ k < 2 ^ 62) ∧ SEQ x fun xs => K (xs.zipIdx.map fun p => .tuple [.int (k + (p.2 : Nat)), p.1])
  | _ => False
theorem ENM_1 {x : Slim.D} {K : List Slim.D → Prop} : ENM [x] K = SEQ x fun xs => K (xs.zipIdx.map fun p => .tuple [.int (0 + (p.2 : Nat)), p.1]) := rfl
theorem ENM_2 {x : Slim.D} {k : Int} {K : List Slim.D → Prop} : ENM [x, .int k] K = ((-(2 ^ 62) < k ∧ k < 2 ^ 62) ∧ SEQ x fun xs => K (xs.zipIdx.map fun p => .tuple [.int (k + (p.2 : Nat)), p.1])) := rfl
theorem Wi_enm {as : Slim.E} {K : List Slim.D → S.G → Prop} : Wi T (.enm as) τ g K X = Ws T as τ g (fun zs g => ENM zs fun xs => K xs g) X := by
  unfold Wi Ws; simp only [evi, RW_bind]
  congr 1; funext zs g
  match zs with
  | [] => rfl
  | [x] => simp only [RW_bind, RW_seqR, RW_ok, ENM]
  | [x, .int k] => simp only [RW_ifr, RW_bind, RW_seqR, RW_ok, ENM]
  | [x, .none] => rfl
  | [x, .bool _] => rfl
  | [x, .str _] => rfl
  | [x, .list _] => rfl
  | [x, .tuple _] => rfl
  | [x, .dict _] => rfl
  | x :: y :: z :: r => cases y <;> rfl
end
end Law

set_option Elab.async false
set_option linter.all false
set_option maxRecDepth 100000
set_option maxHeartbeats 4000000
/-! W4: statements. -/
namespace Law
open PySem PySem.Spec PyProof.Rows L2 Slim
section
variable {S : GS}
def OQ (o : Out S) (Q : Out S → Prop) : Prop := match o with
  | .no => False
  | o => Q o
variable (T : Tab S) (n : Nat)
def OW (s : Slim.S) (τ : Sl) (g : S.G) (Q : Out S → Prop) : Prop := OQ (Slim.run T n s τ g) Q
def exQ (Q : Out S → Prop) : KX S := fun c t g => Q (.ex c t g)
def seqQ (r : Slim.S) (Q : Out S → Prop) : Out S → Prop := fun o => match o with
  | .nx τ g => OW T n r τ g Q
  | o => Q o
def loopQ (N : Sl → S.G → Prop) (Q : Out S → Prop) : Out S → Prop := fun o => match o with
  | .nx τ g => N τ g
  | .ct τ g => N τ g
  | .bk τ g => Q (.nx τ g)
  | .rt d g => Q (.rt d g)
  | .ex c t g => Q (.ex c t g)
  | .no => False
def retQ (K : Slim.D → S.G → Prop) (X : KX S) : Out S → Prop := fun o => match o with
  | .nx _ g => K .none g
  | .rt d g => K d g
  | .ex c t g => X c t g
  | _ => False
def forF (t : Tg) (b : Slim.S) : Slim.D → Sl → S.G → Out S := fun d τ g => match bindT t d τ with
  | some τ' => Slim.run T n b τ' g
  | none => .no
def FW (t : Tg) (b : Slim.S) (items : List Slim.D) (τ : Sl) (g : S.G) (Q : Out S → Prop) : Prop := OQ (forGo (forF T n t b) items τ g) Q
def WW (c : Slim.E) (b : Slim.S) (fuel : Nat) (τ : Sl) (g : S.G) (Q : Out S → Prop) : Prop := OQ (whlGo (fun τ g => testV T c τ g) (fun τ g => Slim.run T n b τ g) fuel τ g) Q
end
section
variable {S : GS} {T : Tab S} {n : Nat} {τ : Sl} {g : S.G} {Q : Out S → Prop} {K : Slim.D → S.G → Prop} {X : KX S}
theorem seqQ_nx {r : Slim.S} : seqQ T n r Q (.nx τ g) = OW T n r τ g Q := rfl
theorem seqQ_rt {r : Slim.S} {d : Slim.D} : seqQ T n r Q (.rt d g) = Q (.rt d g) := rfl
theorem seqQ_bk {r : Slim.S} : seqQ T n r Q (.bk τ g) = Q (.bk τ g) := rfl
theorem seqQ_ct {r : Slim.S} : seqQ T n r Q (.ct τ g) = Q (.ct τ g) := rfl
theorem seqQ_ex {r : Slim.S} {c : Str} {d : Slim.D} : seqQ T n r Q (.ex c d g) = Q (.ex c d g) := rfl
theorem loopQ_nx {N : Sl → S.G → Prop} : loopQ N Q (.nx τ g) = N τ g := rfl
theorem loopQ_ct {N : Sl → S.G → Prop} : loopQ N Q (.ct τ g) = N τ g := rfl
theorem loopQ_bk {N : Sl → S.G → Prop} : loopQ N Q (.bk τ g) = Q (.nx τ g) := rfl
theorem loopQ_rt {N : Sl → S.G → Prop} {d : Slim.D} : loopQ N Q (.rt d g) = Q (.rt d g) := rfl
theorem loopQ_ex {N : Sl → S.G → Prop} {c : Str} {d : Slim.D} : loopQ N Q (.ex c d g) = Q (.ex c d g) := rfl
theorem retQ_nx : retQ K X (.nx τ g) = K .none g := rfl
theorem retQ_rt {d : Slim.D} : retQ K X (.rt d g) = K d g := rfl
theorem retQ_ex {c : Str} {d : Slim.D} : retQ K X (.ex c d g) = X c d g := rfl
theorem exQ_seq {r : Slim.S} : exQ (seqQ T n r Q) = exQ Q := rfl
theorem exQ_ret : exQ (retQ K X) = X := rfl
theorem OQ_out {α : Type} {r : Res S α} {f : α → S.G → Out S} : OQ (r.out f) Q = RW r (fun a g => OQ (f a g) Q) (exQ Q) := by cases r <;> rfl
theorem OQ_if {c : Prop} [Decidable c] {o : Out S} : OQ (if c then o else .no) Q = (c ∧ OQ o Q) := by
  by_cases h : c
  · rw [if_pos h]; exact propext ⟨fun k => ⟨h, k⟩, fun k => k.2⟩
  · rw [if_neg h]; exact propext ⟨fun k => k.elim, fun k => h k.1⟩
theorem OW_nil : OW T n .nil τ g Q = Q (.nx τ g) := rfl
theorem OW_cons {s r : Slim.S} : OW T n (.cons s r) τ g Q = OW T n s τ g (seqQ T n r Q) := by
  unfold OW; rw [Slim.run]
  cases Slim.run T n s τ g <;> rfl
theorem OW_asg {i : Nat} {e : Slim.E} : OW T n (.asg i e) τ g Q = W T e τ g (fun d g => Q (.nx (asgS e i d τ) g)) (exQ Q) := by
  unfold OW W; rw [Slim.run, evV_eq, OQ_out]; rfl
theorem OW_par {is : List Nat} {as : Slim.E} : OW T n (.par is as) τ g Q = Ws T as τ g (fun ds g => ds.length = is.length ∧ Q (.nx (putS is (svsOf as ds) (aft (rds as) (mutsOk as ds) τ)) g)) (exQ Q) := by
  unfold OW Ws; rw [Slim.run, evsV_eq, OQ_out]; simp only [OQ_if]; rfl
theorem OW_asgt {t : Tg} {e : Slim.E} : OW T n (.asgt t e) τ g Q = W T e τ g (fun d g => OP (bindT t d (aft (rds e) (noMut d) τ)) fun τ' => Q (.nx τ' g)) (exQ Q) := by
  unfold OW W; rw [Slim.run, evV_eq, OQ_out]
  congr 1; funext d g
  cases bindT t d (aft (rds e) (noMut d) τ) <;> rfl
theorem OW_exp {e : Slim.E} : OW T n (.exp e) τ g Q = W T e τ g (fun _ g => Q (.nx τ g)) (exQ Q) := by
  unfold OW W; rw [Slim.run, evV_eq, OQ_out]; rfl

/-- a list of the def's own -/
def OL (o : Option SV) (K : List Slim.D → Prop) : Prop := match o with
  | some (.own ds) => K ds
  | _ => False
theorem OL_own {ds : List Slim.D} {K : List Slim.D → Prop} : OL (some (.own ds)) K = K ds := rfl
theorem OW_app {i : Nat} {e : Slim.E} : OW T n (.app i e) τ g Q = OL τ[i]? fun _ => W T e τ g (fun d g => OL (aft (rds e) (noMut d) τ)[i]? fun ds => ds.length < lim ∧ Q (.nx ((aft (rds e) (noMut d) τ).set i (.own (ds ++ [d]))) g)) (exQ Q) := by
  unfold OW W; rw [Slim.run]
  cases τ[i]? with
  | none => rfl
  | some sv => cases sv with
    | own ds =>
      simp only [evV_eq, OQ_out, OL]
      congr 1; funext d g
      cases (aft (rds e) (noMut d) τ)[i]? with
      | none => rfl
      | some sv => cases sv <;> first | rfl | exact OQ_if
    | _ => rfl
def LS (d : Slim.D) (K : List Slim.D → Prop) : Prop := match d with
  | .list xs => K xs
  | _ => False
theorem LS_l {xs : List Slim.D} {K : List Slim.D → Prop} : LS (.list xs) K = K xs := rfl
theorem OW_ext {i : Nat} {e : Slim.E} : OW T n (.ext i e) τ g Q = OL τ[i]? fun _ => W T e τ g (fun d g => LS d fun es => OL (aft (rds e) (noMutAll es) τ)[i]? fun ds => ds.length + es.length ≤ lim ∧ Q (.nx ((aft (rds e) (noMutAll es) τ).set i (.own (ds ++ es))) g)) (exQ Q) := by
  unfold OW W; rw [Slim.run]
  cases τ[i]? with
  | none => rfl
  | some sv => cases sv with
    | own ds =>
      simp only [evV_eq, OQ_out, OL]
      congr 1; funext d g
      cases d with
      | list es =>
        simp only [LS]
        cases (aft (rds e) (noMutAll es) τ)[i]? with
        | none => rfl
        | some sv => cases sv <;> first | rfl | exact OQ_if
      | _ => rfl
    | _ => rfl
theorem OW_popt {t : Tg} {i : Nat} : OW T n (.popt t i) τ g Q = OL τ[i]? fun ds => OP ds.getLast? fun d => OP (bindT t d (τ.set i (.own ds.dropLast))) fun τ' => Q (.nx τ' g) := by
  unfold OW; rw [Slim.run]
  cases τ[i]? with
  | none => rfl
  | some sv => cases sv with
    | own ds =>
      simp only [OL]
      cases ds.getLast? with
      | none => rfl
      | some d =>
        simp only [OP]
        cases bindT t d (τ.set i (.own ds.dropLast)) <;> rfl
    | _ => rfl

/-- values into targets -/
def SM (ts : Slim.E) (ds : List Slim.D) (τ : Sl) (g : S.G) (Q : Out S → Prop) : Prop := OQ (stM T ts ds τ g) Q
end
section
variable {S : GS} {T : Tab S} {n : Nat} {τ : Sl} {g : S.G} {Q : Out S → Prop} {K : Slim.D → S.G → Prop} {X : KX S}
theorem OW_pmx {ts as : Slim.E} : OW T n (.pmx ts as) τ g Q = Ws T as τ g (fun ds g => SM (T := T) ts ds (aft (rds as) (noMutAll ds) τ) g Q) (exQ Q) := by
  unfold OW Ws; rw [Slim.run, evsV_eq, OQ_out]; rfl
theorem SM_nil : SM (T := T) .nil [] τ g Q = Q (.nx τ g) := rfl
theorem SM_var {i : Nat} {r : Slim.E} {d : Slim.D} {ds : List Slim.D} : SM (T := T) (.cons (.var i) r) (d :: ds) τ g Q = SM (T := T) r ds (τ.set i (.dat d)) g Q := rfl
theorem SM_idx {j : Nat} {k r : Slim.E} {d : Slim.D} {ds : List Slim.D} : SM (T := T) (.cons (.idx (.var j) k) r) (d :: ds) τ g Q = OL τ[j]? fun es => W T k τ g (fun x g => IN x fun z => OP (ixN es.length z) fun l => SM (T := T) r ds (τ.set j (.own (es.set l d))) g Q) (exQ Q) := by
  unfold SM W
  rw [stM.eq_3]
  cases τ[j]? with
  | none => rfl
  | some sv => cases sv with
    | own es =>
      simp only [evV_eq, OQ_out, OL]
      congr 1; funext x g
      cases x with
      | int z =>
        simp only [IN]
        cases ixN es.length z <;> rfl
      | _ => rfl
    | _ => rfl
theorem OW_set {i : Nat} {k e : Slim.E} : OW T n (.set i k e) τ g Q = W T e τ g (fun d g => OL (aft (rds e) (noMut d) τ)[i]? fun ds => W T k (aft (rds e) (noMut d) τ) g (fun x g => IN x fun z => OP (ixN ds.length z) fun j => Q (.nx ((aft (rds e) (noMut d) τ).set i (.own (ds.set j d))) g)) (exQ Q)) (exQ Q) := by
  unfold OW W; rw [Slim.run, evV_eq, OQ_out]
  congr 1; funext d g
  cases (aft (rds e) (noMut d) τ)[i]? with
  | none => rfl
  | some sv => cases sv with
    | own ds =>
      simp only [evV_eq, OQ_out, OL]
      congr 1; funext x g
      cases x with
      | int z =>
        simp only [IN]
        cases ixN ds.length z <;> rfl
      | _ => rfl
    | _ => rfl
theorem OW_ret {e : Slim.E} : OW T n (.ret e) τ g Q = W T e τ g (fun d g => Q (.rt d g)) (exQ Q) := by
  unfold OW W; rw [Slim.run, evV_eq, OQ_out]; rfl
theorem OW_retn : OW T n .retn τ g Q = Q (.rt .none g) := rfl
theorem OW_ife {c : Slim.E} {a b : Slim.S} : OW T n (.ife c a b) τ g Q = W T c τ g (fun x g => BK (tru x) (OW T n a τ g Q) (OW T n b τ g Q)) (exQ Q) := by
  unfold OW W; rw [Slim.run, testV, evV_eq, OQ_out, RW_bind]
  congr 1; funext x g
  rw [RW_of]
  unfold BK
  congr 1; funext b
  cases b <;> rfl
theorem OW_brk : OW T n .brk τ g Q = Q (.bk τ g) := rfl
theorem OW_cnt : OW T n .cnt τ g Q = Q (.ct τ g) := rfl
theorem OW_pass : OW T n .pass τ g Q = Q (.nx τ g) := rfl
theorem OW_for {t : Tg} {it : Slim.E} {b : Slim.S} : OW T n (.for_ t it b) τ g Q = Wi T it τ g (fun items g => items.length < lim ∧ FW T n t b items (frzI it τ) g Q) (exQ Q) := by
  unfold OW Wi; rw [Slim.run, eviV_eq, OQ_out]; simp only [OQ_if]; rfl
theorem FW_nil {t : Tg} {b : Slim.S} : FW T n t b [] τ g Q = Q (.nx τ g) := rfl
theorem FW_cons {t : Tg} {b : Slim.S} {d : Slim.D} {ds : List Slim.D} : FW T n t b (d :: ds) τ g Q = OP (bindT t d τ) fun τ' => OW T n b τ' g (loopQ (fun τ g => FW T n t b ds τ g Q) Q) := by
  unfold FW; rw [forGo]
  unfold forF OW
  cases bindT t d τ with
  | none => rfl
  | some τ' =>
    simp only [OP]
    cases Slim.run T n b τ' g <;> rfl

/-- a loop by its invariant -/
theorem FW_inv {α : Type} {k : α → Slim.D} (I : List α → List α → Sl → S.G → Prop) {t : Tg} {b : Slim.S} {as : List α} (h0 : I [] as τ g) (step : ∀ pre a post τ g, pre ++ a :: post = as → I pre (a :: post) τ g → OP (bindT t (k a) τ) fun τ' => OW T n b τ' g (loopQ (fun τ g => I (pre ++ [a]) post τ g) Q))
    (fin : ∀ τ g, I as [] τ g → Q (.nx τ g)) : FW T n t b (as.map k) τ g Q := by
  have key : ∀ (post pre : List α) (τ : Sl) (g : S.G), pre ++ post = as → I pre post τ g → FW T n t b (post.map k) τ g Q := by
    intro post
    induction post with
    | nil =>
      intro pre τ g e h
      rw [List.append_nil] at e
      subst e
      exact fin τ g h
    | cons a post ih =>
      intro pre τ g e h
      rw [List.map_cons, FW_cons]
      have hs := step pre a post τ g e h
      cases hb : bindT t (k a) τ with
      | none => rw [hb] at hs; exact hs.elim
      | some τ' =>
        rw [hb] at hs
        simp only [OP] at hs ⊢
        unfold OW at hs ⊢
        cases hr : Slim.run T n b τ' g with
        | nx τ2 g2 => rw [hr] at hs; exact ih (pre ++ [a]) τ2 g2 (by rw [List.append_assoc]; exact e) hs
        | ct τ2 g2 => rw [hr] at hs; exact ih (pre ++ [a]) τ2 g2 (by rw [List.append_assoc]; exact e) hs
        | bk τ2 g2 => rw [hr] at hs; exact hs
        | rt d g2 => rw [hr] at hs; exact hs
        | ex c d g2 => rw [hr] at hs; exact hs
        | no => rw [hr] at hs; exact hs
  exact key as [] τ g rfl h0
theorem OW_whl {c : Slim.E} {b : Slim.S} : OW T n (.whl c b) τ g Q = WW T n c b n τ g Q := by unfold OW; rw [Slim.run]; rfl
theorem WW_succ {c : Slim.E} {b : Slim.S} {fuel : Nat} : WW T n c b (fuel + 1) τ g Q = W T c τ g (fun x g => BK (tru x) (OW T n b τ g (loopQ (fun τ g => WW T n c b fuel τ g Q) Q)) (Q (.nx τ g))) (exQ Q) := by
  unfold WW W OW; rw [whlGo, testV, evV_eq, OQ_out, RW_bind]
  congr 1; funext x g
  rw [RW_of]
  unfold BK
  congr 1; funext y
  cases y with
  | false => rfl
  | true =>
    simp only [CB, if_true]
    cases Slim.run T n b τ g <;> rfl
theorem WW_inv (I : Nat → Sl → S.G → Prop) {c : Slim.E} {b : Slim.S} (step : ∀ m τ g, I m τ g → W T c τ g (fun x g => BK (tru x) (OW T n b τ g (loopQ (fun τ g => ∃ m', m' < m ∧ I m' τ g) Q)) (Q (.nx τ g))) (exQ Q)) : ∀ (fuel m : Nat) (τ : Sl) (g : S.G), m < fuel → I m τ g → WW T n c b fuel τ g Q
  | 0, m, τ, g, hm, h => by omega
  | fuel + 1, m, τ, g, hm, h => by
    rw [WW_succ]
    have hs := step m τ g h
    unfold W at hs ⊢
    refine RW_mono hs (fun x g hx => ?_) fun _ _ _ z => z
    unfold BK at hx ⊢
    cases ht : tru x with
    | none => rw [ht] at hx; exact hx
    | some y =>
      rw [ht] at hx
      simp only [OP] at hx ⊢
      cases y with
      | false => exact hx
      | true =>
        simp only [CB] at hx ⊢
        unfold OW at hx ⊢
        cases hr : Slim.run T n b τ g with
        | nx τ2 g2 =>
          rw [hr] at hx
          obtain ⟨m', h1, h2⟩ := hx
          exact WW_inv I step fuel m' τ2 g2 (by omega) h2
        | ct τ2 g2 =>
          rw [hr] at hx
          obtain ⟨m', h1, h2⟩ := hx
          exact WW_inv I step fuel m' τ2 g2 (by omega) h2
        | bk τ2 g2 => rw [hr] at hx; exact hx
        | rt d g2 => rw [hr] at hx; exact hx
        | ex c d g2 => rw [hr] at hx; exact hx
        | no => rw [hr] at hx; exact hx
theorem OW_cut (M : Sl → S.G → Prop) {s r : Slim.S} (h1 : OW T n s τ g fun o => match o with
    | .nx τ g => M τ g
    | o => Q o) (h2 : ∀ τ g, M τ g → OW T n r τ g Q) : OW T n (.cons s r) τ g Q := by
  rw [OW_cons]
  unfold OW at h1 ⊢
  cases hr : Slim.run T n s τ g with
  | nx τ2 g2 => rw [hr] at h1; exact h2 τ2 g2 h1
  | no => rw [hr] at h1; exact h1
  | ct τ2 g2 => rw [hr] at h1; exact h1
  | bk τ2 g2 => rw [hr] at h1; exact h1
  | rt d g2 => rw [hr] at h1; exact h1
  | ex c d g2 => rw [hr] at h1; exact h1

/-- a def's contract -/
def SpF (F : FSpec S) (dk : Bool) (m : Nat) (P : List Slim.D → S.G → (Slim.D → S.G → Prop) → KX S → Prop) : Prop := F.dk = dk ∧ F.n = m ∧ ∀ ds g K X, P ds g K X → ds.length = m ∧ RW (F.f ds g) K X
def Sp (T : Tab S) (f : Str) (dk : Bool) (P : List Slim.D → S.G → (Slim.D → S.G → Prop) → KX S → Prop) : Prop := ∃ F m, T f = some F ∧ SpF F dk m P
theorem Sp.of {f : Str} {F : FSpec S} {dk : Bool} {m : Nat} {P : List Slim.D → S.G → (Slim.D → S.G → Prop) → KX S → Prop} (e : T f = some F) (h : SpF F dk m P) : Sp T f dk P := ⟨F, m, e, h⟩
theorem Sp.has {f : Str} {dk : Bool} {P : List Slim.D → S.G → (Slim.D → S.G → Prop) → KX S → Prop} (h : Sp T f dk P) : HasT T f dk := by
  obtain ⟨F, m, e, h1, h2⟩ := h
  unfold HasT
  rw [e]
  exact h1
theorem Sp.call {f : Str} {dk : Bool} {P : List Slim.D → S.G → (Slim.D → S.G → Prop) → KX S → Prop} {ds : List Slim.D} (h : Sp T f dk P) (p : P ds g K X) : CallW T f ds g K X := by
  obtain ⟨F, m, e, h1, h2, h3⟩ := h
  unfold CallW
  rw [e]
  obtain ⟨q1, q2⟩ := h3 ds g K X p
  exact ⟨by rw [q1, h2], q2⟩
theorem RW_runF {dk : Bool} {len : Nat} {m : Slim.S} {ds : List Slim.D} : RW (runF T dk len n m ds g) K X = OW T n m (st0 dk len ds) g (retQ K X) := by
  unfold runF OW outR
  cases Slim.run T n m (st0 dk len ds) g <;> rfl
end
end Law

set_option Elab.async false
set_option linter.all false
set_option maxRecDepth 100000
set_option maxHeartbeats 4000000
/-! W4b: what is still to come stands where simp does not look. -/
namespace Law
open PySem PySem.Spec PyProof.Rows L2 Slim
class Hid (P : Type) where
  v : P
section
variable {S : GS}
def OPh {α : Type} (o : Option α) [K : Hid (α → Prop)] : Prop := OP o K.v
def CBh (b : Bool) [K : Hid (Prop × Prop)] : Prop := CB b K.v.1 K.v.2
def SEQh (d : Slim.D) [K : Hid (List Slim.D → Prop)] : Prop := SEQ d K.v
def INh (d : Slim.D) [K : Hid (Int → Prop)] : Prop := IN d K.v
def ENMh (d : List Slim.D) [K : Hid (List Slim.D → Prop)] : Prop := ENM d K.v
def NGh (d : Slim.D) [K : Hid (Slim.D → Prop)] : Prop := NG d K.v
def RVh (d : Slim.D) [K : Hid (Slim.D → Prop)] : Prop := RV d K.v
def OLh (o : Option SV) [K : Hid (List Slim.D → Prop)] : Prop := OL o K.v
def LSh (d : Slim.D) [K : Hid (List Slim.D → Prop)] : Prop := LS d K.v
def CallH (T : Tab S) (f : Str) (ds : List Slim.D) (g : S.G) [K : Hid (Slim.D → S.G → Prop)] [X : Hid (KX S)] : Prop := CallW T f ds g K.v X.v
def CWh (T : Tab S) (own : List Nat) (tg : Tg) (c el : Slim.E) (τ : Sl) (items : List Slim.D) (g : S.G) [K : Hid (List Slim.D → S.G → Prop)] : Prop := CW T own tg c el τ items g K.v
def FWh (T : Tab S) (n : Nat) (t : Tg) (b : Slim.S) (items : List Slim.D) (τ : Sl) (g : S.G) [Q : Hid (Out S → Prop)] : Prop := FW T n t b items τ g Q.v
def WWh (T : Tab S) (n : Nat) (c : Slim.E) (b : Slim.S) (fuel : Nat) (τ : Sl) (g : S.G) [Q : Hid (Out S → Prop)] : Prop := WW T n c b fuel τ g Q.v
end
section
variable {S : GS} {T : Tab S} {n : Nat} {τ : Sl} {g : S.G} {K : Slim.D → S.G → Prop} {X : KX S}
theorem hOP {α : Type} {o : Option α} {K : α → Prop} : OP o K = @OPh α o ⟨K⟩ := rfl
theorem hCB {b : Bool} {A B : Prop} : CB b A B = @CBh b ⟨(A, B)⟩ := rfl
theorem hSEQ {d : Slim.D} {K : List Slim.D → Prop} : SEQ d K = @SEQh d ⟨K⟩ := rfl
theorem hIN {d : Slim.D} {K : Int → Prop} : IN d K = @INh d ⟨K⟩ := rfl
theorem hENM {d : List Slim.D} {K : List Slim.D → Prop} : ENM d K = @ENMh d ⟨K⟩ := rfl
theorem hNG {d : Slim.D} {K : Slim.D → Prop} : NG d K = @NGh d ⟨K⟩ := rfl
theorem hRV {d : Slim.D} {K : Slim.D → Prop} : RV d K = @RVh d ⟨K⟩ := rfl
theorem hOL {d : Option SV} {K : List Slim.D → Prop} : OL d K = @OLh d ⟨K⟩ := rfl
theorem hLS {d : Slim.D} {K : List Slim.D → Prop} : LS d K = @LSh d ⟨K⟩ := rfl
theorem hCall {f : Str} {ds : List Slim.D} : CallW T f ds g K X = @CallH S T f ds g ⟨K⟩ ⟨X⟩ := rfl
theorem hCW {own : List Nat} {tg : Tg} {c el : Slim.E} {items : List Slim.D} {K : List Slim.D → S.G → Prop} : CW T own tg c el τ items g K = @CWh S T own tg c el τ items g ⟨K⟩ := rfl
theorem hFW {t : Tg} {b : Slim.S} {items : List Slim.D} {Q : Out S → Prop} : FW T n t b items τ g Q = @FWh S T n t b items τ g ⟨Q⟩ := rfl
theorem hWW {c : Slim.E} {b : Slim.S} {fuel : Nat} {Q : Out S → Prop} : WW T n c b fuel τ g Q = @WWh S T n c b fuel τ g ⟨Q⟩ := rfl
theorem OPh_some {α : Type} {a : α} {K : Hid (α → Prop)} : OPh (some a) = K.v a := rfl
theorem OPh_none {α : Type} {K : Hid (α → Prop)} : OPh (none : Option α) = False := rfl
theorem OPh_map {α β : Type} {o : Option α} {f : α → β} {K : Hid (β → Prop)} : OPh (o.map f) = @OPh α o ⟨fun a => K.v (f a)⟩ := OP_map
theorem OPh_ite {α : Type} {c : Prop} [Decidable c] {a : α} {K : Hid (α → Prop)} : OPh (if c then some a else none) = (c ∧ K.v a) := OP_ite
theorem OPh_of {α : Type} {o : Option α} {a : α} {K : Hid (α → Prop)} (h : o = some a) (k : K.v a) : OPh o := OP_of h k
theorem CBh_true {K : Hid (Prop × Prop)} : CBh true = K.v.1 := rfl
theorem CBh_false {K : Hid (Prop × Prop)} : CBh false = K.v.2 := rfl
theorem CBh_not {b : Bool} {K : Hid (Prop × Prop)} : CBh (!b) = @CBh b ⟨(K.v.2, K.v.1)⟩ := CB_not
theorem CBh_and {b c : Bool} {K : Hid (Prop × Prop)} : CBh (b && c) = @CBh b ⟨(CBh c, K.v.2)⟩ := CB_and
theorem CBh_or {b c : Bool} {K : Hid (Prop × Prop)} : CBh (b || c) = @CBh b ⟨(K.v.1, CBh c)⟩ := CB_or
theorem CB_b' {b : Bool} {K : Hid (Prop × Prop)} (h1 : b = true → K.v.1) (h2 : b = false → K.v.2) : CBh b := CB_b h1 h2
theorem CB_i' {p : Prop} [Decidable p] {K : Hid (Prop × Prop)} (h1 : p → K.v.1) (h2 : ¬ p → K.v.2) : CBh (decide p) := CB_i h1 h2
theorem CB_t' {p : Prop} [Decidable p] {K : Hid (Prop × Prop)} (h : p) (h1 : K.v.1) : CBh (decide p) := CB_t h h1
theorem CB_f' {p : Prop} [Decidable p] {K : Hid (Prop × Prop)} (h : ¬ p) (h1 : K.v.2) : CBh (decide p) := CB_f h h1
theorem CB_T {b : Bool} {K : Hid (Prop × Prop)} (h : b = true) (h1 : K.v.1) : CBh b := by subst h; exact h1
theorem CB_F {b : Bool} {K : Hid (Prop × Prop)} (h : b = false) (h1 : K.v.2) : CBh b := by subst h; exact h1
theorem SEQh_l {xs : List Slim.D} {K : Hid (List Slim.D → Prop)} : SEQh (.list xs) = K.v xs := rfl
theorem SEQh_t {xs : List Slim.D} {K : Hid (List Slim.D → Prop)} : SEQh (.tuple xs) = K.v xs := rfl
theorem INh_int {i : Int} {K : Hid (Int → Prop)} : INh (.int i) = K.v i := rfl
theorem ENMh_1 {x : Slim.D} {K : Hid (List Slim.D → Prop)} : ENMh [x] = @SEQh x ⟨fun xs => K.v (xs.zipIdx.map fun p => .tuple [.int (0 + (p.2 : Nat)), p.1])⟩ := rfl
theorem ENMh_2 {x : Slim.D} {k : Int} {K : Hid (List Slim.D → Prop)} : ENMh [x, .int k] = ((-(2 ^ 62) < k ∧ k < 2 ^ 62) ∧ @SEQh x ⟨fun xs => K.v (xs.zipIdx.map fun p => .tuple [.int (k + (p.2 : Nat)), p.1])⟩) := rfl
theorem NGh_int {i : Int} {K : Hid (Slim.D → Prop)} : NGh (.int i) = K.v (.int (-i)) := rfl
theorem RVh_l {xs : List Slim.D} {K : Hid (Slim.D → Prop)} : RVh (.list xs) = K.v (.list xs.reverse) := rfl
theorem RVh_t {xs : List Slim.D} {K : Hid (Slim.D → Prop)} : RVh (.tuple xs) = K.v (.tuple xs.reverse) := rfl
theorem OLh_own {ds : List Slim.D} {K : Hid (List Slim.D → Prop)} : OLh (some (.own ds)) = K.v ds := rfl
theorem LSh_l {xs : List Slim.D} {K : Hid (List Slim.D → Prop)} : LSh (.list xs) = K.v xs := rfl
theorem CWh_nil {own : List Nat} {tg : Tg} {c el : Slim.E} {K : Hid (List Slim.D → S.G → Prop)} : CWh T own tg c el τ [] g = K.v [] g := rfl
theorem CWh_pure {α : Type} {k : α → Slim.D} {ψ : α → Option Slim.D} {own : List Nat} {tg : Tg} {c el : Slim.E} {as : List α} {K : Hid (List Slim.D → S.G → Prop)} (h : ∀ a ∈ as, ∀ K' : Option Slim.D → S.G → Prop, K' (ψ a) g → BD T own tg c el τ (k a) g K' NX) (hk : K.v (as.filterMap ψ) g) : CWh T own tg c el τ (as.map k) g := CW_pure h hk
theorem CWh_map {α : Type} {k : α → Slim.D} {φ : α → Slim.D} {own : List Nat} {tg : Tg} {c el : Slim.E} {as : List α} {K : Hid (List Slim.D → S.G → Prop)} (hf : ∀ a ∈ as, ∀ K' : Option Slim.D → S.G → Prop, K' (some (φ a)) g → BD T own tg c el τ (k a) g K' NX) (h : K.v (as.map φ) g) : CWh T own tg c el τ (as.map k) g := CW_map hf h
theorem CWh_filter {α : Type} {k : α → Slim.D} (p : α → Bool) {φ : α → Slim.D} {own : List Nat} {tg : Tg} {c el : Slim.E} {as : List α} {K : Hid (List Slim.D → S.G → Prop)} (hf : ∀ a ∈ as, ∀ K' : Option Slim.D → S.G → Prop, (p a = true → K' (some (φ a)) g) → (p a = false → K' none g) → BD T own tg c el τ (k a) g K' NX) (h : K.v ((as.filter p).map φ) g) : CWh T own tg c el τ (as.map k) g := CW_filter p hf h
theorem CWh_draw {α β : Type} (l : β → Slim.D) (R : α → β → Prop) (I : S.G → Prop) {k : α → Slim.D} {own : List Nat} {tg : Tg} {c el : Slim.E} {as : List α} {K : Hid (List Slim.D → S.G → Prop)} (hi : I g) (hf : ∀ a ∈ as, ∀ g, I g → ∀ K' : Option Slim.D → S.G → Prop, (∀ b g', R a b → I g' → K' (some (l b)) g') → BD T own tg c el τ (k a) g K' NX)
    (h : ∀ bs g', Rl2 R as bs → I g' → K.v (bs.map l) g') : CWh T own tg c el τ (as.map k) g := CW_draw l R I hi hf h
theorem FWh_inv {α : Type} {k : α → Slim.D} (I : List α → List α → Sl → S.G → Prop) {t : Tg} {b : Slim.S} {as : List α} {Q : Hid (Out S → Prop)} (h0 : I [] as τ g) (step : ∀ pre a post τ g, pre ++ a :: post = as → I pre (a :: post) τ g → OP (bindT t (k a) τ) fun τ' => OW T n b τ' g (loopQ (fun τ g => I (pre ++ [a]) post τ g) Q.v))
    (fin : ∀ τ g, I as [] τ g → Q.v (.nx τ g)) : FWh T n t b (as.map k) τ g := FW_inv I h0 step fin
theorem WWh_inv (I : Nat → Sl → S.G → Prop) {c : Slim.E} {b : Slim.S} {fuel m : Nat} {Q : Hid (Out S → Prop)} (hm : m < fuel) (h : I m τ g) (step : ∀ m τ g, I m τ g → W T c τ g (fun x g => BK (tru x) (OW T n b τ g (loopQ (fun τ g => ∃ m', m' < m ∧ I m' τ g) Q.v)) (Q.v (.nx τ g))) (exQ Q.v)) : WWh T n c b fuel τ g := WW_inv I step fuel m τ g hm h
theorem Sp.callH {f : Str} {dk : Bool} {P : List Slim.D → S.G → (Slim.D → S.G → Prop) → KX S → Prop} {ds : List Slim.D} {K : Hid (Slim.D → S.G → Prop)} {X : Hid (KX S)} (h : Sp T f dk P) (p : P ds g K.v X.v) : CallH T f ds g := h.call p
end
section
variable {S : GS} {T : Tab S} {n : Nat} {τ : Sl} {g : S.G} {Q : Out S → Prop} {r : Slim.S}
theorem OW_c_asg {i : Nat} {e : Slim.E} : OW T n (.cons (.asg i e) r) τ g Q = OW T n (.asg i e) τ g (seqQ T n r Q) := OW_cons
theorem OW_c_par {is : List Nat} {as : Slim.E} : OW T n (.cons (.par is as) r) τ g Q = OW T n (.par is as) τ g (seqQ T n r Q) := OW_cons
theorem OW_c_asgt {t : Tg} {e : Slim.E} : OW T n (.cons (.asgt t e) r) τ g Q = OW T n (.asgt t e) τ g (seqQ T n r Q) := OW_cons
theorem OW_c_exp {e : Slim.E} : OW T n (.cons (.exp e) r) τ g Q = OW T n (.exp e) τ g (seqQ T n r Q) := OW_cons
theorem OW_c_app {i : Nat} {e : Slim.E} : OW T n (.cons (.app i e) r) τ g Q = OW T n (.app i e) τ g (seqQ T n r Q) := OW_cons
theorem OW_c_ext {i : Nat} {e : Slim.E} : OW T n (.cons (.ext i e) r) τ g Q = OW T n (.ext i e) τ g (seqQ T n r Q) := OW_cons
theorem OW_c_popt {t : Tg} {i : Nat} : OW T n (.cons (.popt t i) r) τ g Q = OW T n (.popt t i) τ g (seqQ T n r Q) := OW_cons
theorem OW_c_pmx {ts as : Slim.E} : OW T n (.cons (.pmx ts as) r) τ g Q = OW T n (.pmx ts as) τ g (seqQ T n r Q) := OW_cons
theorem OW_c_set {i : Nat} {a e : Slim.E} : OW T n (.cons (.set i a e) r) τ g Q = OW T n (.set i a e) τ g (seqQ T n r Q) := OW_cons
theorem OW_c_ret {e : Slim.E} : OW T n (.cons (.ret e) r) τ g Q = OW T n (.ret e) τ g (seqQ T n r Q) := OW_cons
theorem OW_c_retn  : OW T n (.cons (.retn) r) τ g Q = OW T n (.retn) τ g (seqQ T n r Q) := OW_cons
theorem OW_c_brk  : OW T n (.cons (.brk) r) τ g Q = OW T n (.brk) τ g (seqQ T n r Q) := OW_cons
theorem OW_c_cnt  : OW T n (.cons (.cnt) r) τ g Q = OW T n (.cnt) τ g (seqQ T n r Q) := OW_cons
theorem OW_c_pass  : OW T n (.cons (.pass) r) τ g Q = OW T n (.pass) τ g (seqQ T n r Q) := OW_cons
end
end Law

set_option Elab.async false
set_option linter.all false
set_option maxRecDepth 100000
set_option maxHeartbeats 4000000
/-! W5: what is known of data. -/
namespace Law
open PySem PySem.Spec PyProof.Rows L2 Slim
theorem getD_0d {d : Slim.D} {τ : Sl} : getD (.dat d :: τ) 0 = some d := rfl
theorem getD_0o {d : List Slim.D} {τ : Sl} : getD (.own d :: τ) 0 = some (.list d) := rfl
theorem getD_s {x : SV} {τ : Sl} {i : Nat} : getD (x :: τ) (i + 1) = getD τ i := rfl
theorem aft_t {rd : List Nat} {τ : Sl} : aft rd true τ = τ := rfl
theorem aft_f {rd : List Nat} {τ : Sl} : aft rd false τ = frzAt rd 0 τ := rfl
theorem aft_nd {rd : List Nat} {b : Bool} {τ : Sl} (h : frzAt rd 0 τ = τ) : aft rd b τ = τ := by cases b <;> first | rfl | exact h
theorem frzA_nil {rd : List Nat} {i : Nat} : frzAt rd i [] = [] := rfl
theorem frzA_d {rd : List Nat} {i : Nat} {d : Slim.D} {r : Sl} : frzAt rd i (.dat d :: r) = .dat d :: frzAt rd (i + 1) r := rfl
theorem frzA_u {rd : List Nat} {i : Nat} {r : Sl} : frzAt rd i (.un :: r) = .un :: frzAt rd (i + 1) r := rfl
theorem frzA_k {rd : List Nat} {i : Nat} {r : Sl} : frzAt rd i (.dk :: r) = .dk :: frzAt rd (i + 1) r := rfl
theorem frzA_o {rd : List Nat} {i : Nat} {ds : List Slim.D} {r : Sl} : frzAt rd i (.own ds :: r) = (if rd.contains i = true then SV.dat (.list ds) else .own ds) :: frzAt rd (i + 1) r := rfl
theorem frzA_no {rd : List Nat} {i : Nat} {sv : SV} {r : Sl} (h : rd.contains i = false) : frzAt rd i (sv :: r) = sv :: frzAt rd (i + 1) r := by cases sv <;> simp only [frzAt, h, Bool.false_eq_true, if_false]
theorem frzI_1 {a : Slim.E} {τ : Sl} : frzI (.rng1 a) τ = τ := rfl
theorem frzI_2 {a b : Slim.E} {τ : Sl} : frzI (.rng2 a b) τ = τ := rfl
theorem frzI_c {a b : Slim.E} {τ : Sl} : frzI (.cons a b) τ = frzAt (rds a ++ rds b) 0 τ := rfl
theorem frzI_e {a : Slim.E} {τ : Sl} : frzI (.enm a) τ = frzAt (rds a) 0 τ := rfl
theorem frzI_z {a b : Slim.E} {τ : Sl} : frzI (.zp a b) τ = frzAt (rds a ++ rds b) 0 τ := rfl
theorem bind_nm {i : Nat} {d : Slim.D} {τ : Sl} : bindT (.nm i) d τ = some (τ.set i (.dat d)) := rfl
theorem bind_tp {ts : Tg} {ds : List Slim.D} {τ : Sl} : bindT (.tp ts) (.tuple ds) τ = if fitTs ts ds = true then some (setTs ts ds τ) else none := rfl
theorem fitTs_nil : fitTs .nil [] = true := rfl
theorem fitTs_nm {i : Nat} {ts : Tg} {d : Slim.D} {ds : List Slim.D} : fitTs (.cons (.nm i) ts) (d :: ds) = fitTs ts ds := by rw [fitTs, fitT, Bool.true_and]
theorem fitTs_tp {us ts : Tg} {es ds : List Slim.D} : fitTs (.cons (.tp us) ts) (.tuple es :: ds) = (fitTs us es && fitTs ts ds) := by rw [fitTs, fitT]
theorem setTs_nil {τ : Sl} : setTs .nil [] τ = τ := rfl
theorem setTs_nm {i : Nat} {ts : Tg} {d : Slim.D} {ds : List Slim.D} {τ : Sl} : setTs (.cons (.nm i) ts) (d :: ds) τ = setTs ts ds (τ.set i (.dat d)) := rfl
theorem setTs_tp {us ts : Tg} {es ds : List Slim.D} {τ : Sl} : setTs (.cons (.tp us) ts) (.tuple es :: ds) τ = setTs ts ds (setTs us es τ) := rfl
theorem wipe_nil {τ : Sl} : wipeS τ [] = τ := rfl
theorem wipe_cons {τ : Sl} {v : Nat} {vs : List Nat} : wipeS τ (v :: vs) = (wipeS τ vs).set v .un := rfl
theorem noMut_non : noMut .none = true := rfl
theorem noMut_b {b : Bool} : noMut (.bool b) = true := rfl
theorem noMut_i {b : Int} : noMut (.int b) = true := rfl
theorem noMut_s {b : Str} : noMut (.str b) = true := rfl
theorem noMut_l {b : List Slim.D} : noMut (.list b) = false := rfl
theorem noMut_t {b : List Slim.D} : noMut (.tuple b) = noMutAll b := by rw [noMut]
theorem noMutA_nil : noMutAll [] = true := rfl
theorem noMutA_cons {d : Slim.D} {ds : List Slim.D} : noMutAll (d :: ds) = (noMut d && noMutAll ds) := by rw [noMutAll]
theorem noMutA_map {α : Type} {f : α → Slim.D} (h : ∀ a, noMut (f a) = true) : ∀ xs : List α, noMutAll (xs.map f) = true
  | [] => rfl
  | x :: xs => by rw [List.map_cons, noMutAll, h x, noMutA_map h xs]; rfl
theorem noMutA_app {xs ys : List Slim.D} : noMutAll (xs ++ ys) = (noMutAll xs && noMutAll ys) := by
  induction xs with
  | nil => rfl
  | cons x xs ih => rw [List.cons_append, noMutAll, noMutAll, ih, Bool.and_assoc]
theorem noMutA_rep {d : Slim.D} : ∀ n : Nat, noMutAll (List.replicate n d) = (n == 0 || noMut d)
  | 0 => rfl
  | n + 1 => by rw [List.replicate_succ, noMutAll, noMutA_rep n]; cases noMut d <;> simp
def mulOk (i j : Int) : Prop := CMul i j ∨ CMulW i j
theorem OP_mul {i j : Int} {K : Hid (Slim.D → Prop)} : OPh (mulD (.int i) (.int j)) = (mulOk i j ∧ K.v (.int (i * j))) := by
  show OP (if CMul i j ∨ CMulW i j then some (PyData.int (i * j)) else none) K.v = _
  rw [OP_ite]; rfl
theorem mulOk_l {i j : Int} (h1 : -(2 ^ 62) < i) (h2 : i < 2 ^ 62) : mulOk i j := .inl (.inl ⟨by omega, by omega⟩)
theorem mulOk_r {i j : Int} (h1 : -(2 ^ 62) < j) (h2 : j < 2 ^ 62) : mulOk i j := .inl (.inr ⟨by omega, by omega⟩)
theorem mulOk_s {i j : Int} (hi : smN i) (hj : smN j) : mulOk i j := by
  unfold smN at hi hj
  exact .inr (by show i.natAbs.log2 + j.natAbs.log2 < 1000000; omega)
theorem OP_fdiv {i j : Int} {K : Hid (Slim.D → Prop)} : OPh (fdivD (.int i) (.int j)) = ((0 < j ∧ j.natAbs.log2 < 9000) ∧ K.v (.int (i / j))) := by
  show OP (if 0 < j ∧ j.natAbs.log2 < 9000 then some (PyData.int (i / j)) else none) K.v = _
  rw [OP_ite]
theorem OP_mod {i j : Int} {K : Hid (Slim.D → Prop)} : OPh (modD (.int i) (.int j)) = (0 < j ∧ K.v (.int (i % j))) := by
  show OP (if 0 < j then some (PyData.int (i % j)) else none) K.v = _
  rw [OP_ite]
theorem add_l {xs ys : List Slim.D} : addD (.list xs) (.list ys) = if xs.length + ys.length ≤ lim then some (.list (xs ++ ys)) else none := rfl
theorem add_t {xs ys : List Slim.D} : addD (.tuple xs) (.tuple ys) = if xs.length + ys.length ≤ lim then some (.tuple (xs ++ ys)) else none := rfl
theorem add_s {xs ys : Str} : addD (.str xs) (.str ys) = if xs.length + ys.length ≤ lim then some (.str (xs ++ ys)) else none := rfl
theorem sub_i {i j : Int} : subD (.int i) (.int j) = some (.int (i - j)) := rfl
theorem mul_tl {xs : List Slim.D} {k : Int} : mulD (.tuple xs) (.int k) = if 1 ≤ k ∧ k ≤ 1000 ∧ xs.length ≤ 100 ∧ xs ≠ [] then some (.tuple (List.replicate k.toNat xs).flatten) else none := rfl
theorem mul_ll {xs : List Slim.D} {k : Int} : mulD (.list xs) (.int k) = if 0 ≤ k ∧ k ≤ 1000 ∧ xs.length ≤ 100 then some (.list (List.replicate k.toNat xs).flatten) else none := rfl
theorem flat_one {α : Type} {x : α} : ∀ {n : Nat}, (List.replicate n [x]).flatten = List.replicate n x
  | 0 => rfl
  | n + 1 => by rw [List.replicate_succ, List.replicate_succ, List.flatten_cons, flat_one]; rfl
theorem pow_i {i j : Int} : powD (.int i) (.int j) = if CPow i j then some (.int (i ^ j.toNat)) else none := rfl
theorem cop_lt {i j : Int} : Slim.cop .lt (.int i) (.int j) = some (decide (i < j)) := rfl
theorem cop_le {i j : Int} : Slim.cop .le (.int i) (.int j) = some (decide (i ≤ j)) := rfl
theorem cop_gt {i j : Int} : Slim.cop .gt (.int i) (.int j) = some (decide (j < i)) := rfl
theorem cop_ge {i j : Int} : Slim.cop .ge (.int i) (.int j) = some (decide (j ≤ i)) := rfl
theorem cop_eq {a b : Slim.D} : Slim.cop .eq a b = eqD a b := rfl
theorem cop_ne {a b : Slim.D} : Slim.cop .ne a b = (eqD a b).map (!·) := rfl
theorem cop_is {a b : Slim.D} : Slim.cop .is a b = isD a b := rfl
theorem cop_isnt {a b : Slim.D} : Slim.cop .isnt a b = (isD a b).map (!·) := rfl
theorem cop_in {a b : Slim.D} : Slim.cop .isin a b = inD a b := rfl
theorem cop_notin {a b : Slim.D} : Slim.cop .notin a b = (inD a b).map (!·) := rfl
theorem isD_nn : isD .none .none = some true := rfl
theorem isD_in {i : Int} : isD (.int i) .none = some false := rfl
theorem isD_tn {xs : List Slim.D} : isD (.tuple xs) .none = some false := rfl
theorem isD_ln {xs : List Slim.D} : isD (.list xs) .none = some false := rfl
theorem isD_fn {q : Rat} : isD (fr q) .none = some false := rfl
theorem tru_b {b : Bool} : tru (.bool b) = some b := rfl
theorem tru_n : tru .none = some false := rfl
theorem tru_i {i : Int} : tru (.int i) = some (!decide (i = 0)) := by
  show some (i != 0) = _
  rw [bne]; rfl
theorem tru_l {xs : List Slim.D} : tru (.list xs) = some (!xs.isEmpty) := rfl
theorem tru_t {xs : List Slim.D} : tru (.tuple xs) = some (!xs.isEmpty) := rfl
theorem isEmpty_map {α : Type} {f : α → Slim.D} {xs : List α} : (xs.map f).isEmpty = decide (xs = []) := by cases xs <;> rfl
theorem isEmpty_dec {xs : List Slim.D} : xs.isEmpty = decide (xs = []) := by cases xs <;> simp
theorem len_l {xs : List Slim.D} : lenD (.list xs) = some (.int xs.length) := rfl
theorem len_t {xs : List Slim.D} : lenD (.tuple xs) = some (.int xs.length) := rfl
theorem abs_i {i : Int} : absD (.int i) = some (.int (if i < 0 then -i else i)) := rfl
theorem int_i {i : Int} : Slim.intD (.int i) = some (.int i) := rfl
theorem tup_l {xs : List Slim.D} : tupD (.list xs) = some (.tuple xs) := rfl
theorem tup_t {xs : List Slim.D} : tupD (.tuple xs) = some (.tuple xs) := rfl
theorem lst_l {xs : List Slim.D} : lstD (.list xs) = some (.list xs) := rfl
theorem lst_t {xs : List Slim.D} : lstD (.tuple xs) = some (.list xs) := rfl
theorem max2_i {i j : Int} : max2D (.int i) (.int j) = some (.int (if j > i then j else i)) := rfl
theorem min2_i {i j : Int} : min2D (.int i) (.int j) = some (.int (if j < i then j else i)) := rfl
theorem sum_li {ns : List Int} : sumD (.list (ns.map .int)) = some (.int ns.sum) := by
  unfold sumD seqOf; simp only [Option.bind_some, ints_map, Option.map_some]
theorem sum_ti {ns : List Int} : sumD (.tuple (ns.map .int)) = some (.int ns.sum) := by
  unfold sumD seqOf; simp only [Option.bind_some, ints_map, Option.map_some]
theorem all_lb {ns : List Bool} : allD (.list (ns.map .bool)) = some (.bool (ns.all id)) := by
  unfold allD
  have : boolsOf (ns.map .bool) = some ns := by
    induction ns with
    | nil => rfl
    | cons n ns ih => simp only [List.map_cons, boolsOf, ih, Option.map_some]
  simp only [this, Option.map_some]
theorem idx_0t {a : Slim.D} {r : List Slim.D} : idxD (.tuple (a :: r)) (.int 0) = some a := by
  show (ixN (r.length + 1) 0).bind (fun l => (a :: r)[l]?) = some a
  rw [show ixN (r.length + 1) 0 = some 0 by unfold ixN; rw [if_pos (by decide), if_pos (by omega)]; rfl]
  rfl
theorem idx_1t {a b : Slim.D} {r : List Slim.D} : idxD (.tuple (a :: b :: r)) (.int 1) = some b := by
  show (ixN (r.length + 1 + 1) 1).bind (fun l => (a :: b :: r)[l]?) = some b
  rw [show ixN (r.length + 1 + 1) 1 = some 1 by unfold ixN; rw [if_pos (by decide), if_pos (by omega)]; rfl]
  rfl
theorem idx_2t {a b c : Slim.D} {r : List Slim.D} : idxD (.tuple (a :: b :: c :: r)) (.int 2) = some c := by
  show (ixN (r.length + 1 + 1 + 1) 2).bind (fun l => (a :: b :: c :: r)[l]?) = some c
  rw [show ixN (r.length + 1 + 1 + 1) 2 = some 2 by unfold ixN; rw [if_pos (by decide), if_pos (by omega)]; rfl]
  rfl
theorem idx_0l {a : Slim.D} {r : List Slim.D} : idxD (.list (a :: r)) (.int 0) = some a := idx_0t
theorem getD_sm {α : Type} {xs : List α} {k : Nat} {d : α} (h : k < xs.length) : xs[k]? = some (xs.getD k d) := by
  rw [List.getD_eq_getElem?_getD, List.getElem?_eq_getElem h]
  rfl
theorem ixN_p {n : Nat} {i : Int} (h0 : 0 ≤ i) (h1 : i < n) : ixN n i = some i.toNat := by unfold ixN; simp only [h0, h1, if_true]
theorem idx_lm {α : Type} {k : α → Slim.D} {xs : List α} {i : Int} (d : α) (h0 : 0 ≤ i) (h1 : i < xs.length) : idxD (.list (xs.map k)) (.int i) = some (k (xs.getD i.toNat d)) := by
  show (ixN (xs.map k).length i).bind (fun l => (xs.map k)[l]?) = _
  rw [List.length_map, ixN_p h0 h1, Option.bind_some, List.getElem?_map, getD_sm (d := d) (by omega)]
  rfl
theorem idx_tm {α : Type} {k : α → Slim.D} {xs : List α} {i : Int} (d : α) (h0 : 0 ≤ i) (h1 : i < xs.length) : idxD (.tuple (xs.map k)) (.int i) = some (k (xs.getD i.toNat d)) := idx_lm d h0 h1
theorem idxl_last {xs : List Slim.D} : idxD (.list xs) (.int (-1)) = xs.getLast? := by
  show (ixN xs.length (-1)).bind (fun l => xs[l]?) = _
  unfold ixN
  rw [if_neg (by decide)]
  cases xs with
  | nil => rfl
  | cons x xs =>
    rw [if_pos (by simp; omega), List.getLast?_eq_getElem?]
    simp only [Option.bind_some]
    congr 1
    simp
    omega
theorem enm_map {α : Type} {k : α → Slim.D} {xs : List α} {j : Int} : ((xs.map k).zipIdx.map fun p => PyData.tuple [.int (j + (p.2 : Nat)), p.1]) = xs.zipIdx.map fun p => PyData.tuple [.int (j + (p.2 : Nat)), k p.1] := by
  rw [List.zipIdx_map, List.map_map]; rfl
theorem zip_map' {α β : Type} {k : α → Slim.D} {l : β → Slim.D} {xs : List α} {ys : List β} : (((xs.map k).zip (ys.map l)).map fun p => PyData.tuple [p.1, p.2]) = (xs.zip ys).map fun p => PyData.tuple [k p.1, l p.2] := by
  rw [List.zip_map, List.map_map]; rfl
theorem mem_zi {α : Type} {xs : List α} {x : α} {i : Nat} (h : (x, i) ∈ xs.zipIdx) : xs[i]? = some x := by
  have := List.mk_mem_zipIdx_iff_getElem?.mp h
  exact this
end Law

set_option Elab.async false
set_option linter.all false
set_option maxRecDepth 100000
set_option maxHeartbeats 4000000
/-! W6: the word wp; draws. -/
namespace Law
open PySem PySem.Spec PyProof.Rows L2 Slim
local macro_rules | `(tactic| walk_at "wp") => `(tactic| simp only [↓OW_c_asg, ↓OW_c_par, ↓OW_c_asgt, ↓OW_c_exp, ↓OW_c_app, ↓OW_c_ext, ↓OW_c_popt, ↓OW_c_pmx, ↓OW_c_set, ↓OW_c_ret, ↓OW_c_retn, ↓OW_c_brk, ↓OW_c_cnt, ↓OW_c_pass, ↓OW_nil, ↓OW_asg, ↓OW_par, ↓OW_asgt, ↓OW_exp, ↓OW_app, ↓OW_ext, ↓OW_popt, ↓OW_pmx, ↓OW_set, ↓OW_ret, ↓OW_retn, ↓OW_ife, ↓OW_brk, ↓OW_cnt, ↓OW_pass, ↓OW_for, ↓OW_whl, ↓SM_nil, ↓SM_var, ↓SM_idx, ↓W_var, ↓W_lit, ↓W_bin, ↓W_neg, ↓W_cmp, ↓W_chn, ↓W_and, ↓W_or, ↓Wb_one, ↓Wb_and, ↓Wb_or, ↓W_not, ↓W_ite, ↓W_tup, ↓W_lst, ↓W_idx, ↓W_slc, ↓W_rev, ↓W_blt, ↓W_isa, ↓Ws_nil, ↓Ws_cons, ↓Wo_nil, ↓Wo_cons, ↓W_call0, ↓W_call1, ↓W_callk, ↓W_comp, ↓Wi_rng1, ↓Wi_rng2, ↓Wi_zp, ↓Wi_cons, ↓Wi_enm, ↓hOP, ↓hCB, ↓hSEQ, ↓hIN, ↓hENM, ↓hNG, ↓hRV, ↓hOL, ↓hLS, ↓hCall, ↓hCW, ↓hFW, ↓hWW, ↓BK, ↓seqQ_nx, ↓seqQ_rt, ↓seqQ_bk, ↓seqQ_ct, ↓seqQ_ex, ↓loopQ_nx, ↓loopQ_ct, ↓loopQ_bk, ↓loopQ_rt, ↓loopQ_ex, ↓retQ_nx, ↓retQ_rt, ↓retQ_ex, ↓exQ_seq, ↓exQ_ret, IsDk_dk, OPh_some, OPh_none, OPh_map, OPh_ite, CBh_true, CBh_false, CBh_not, CBh_and, CBh_or, NGh_int, INh_int, RVh_l, RVh_t, SEQh_l, SEQh_t, ENMh_1, ENMh_2, OLh_own, LSh_l, CWh_nil, getD_0d, getD_0o, getD_s, aft_t, aft_f, aft_nd, frzA_nil, frzA_d, frzA_u, frzA_k, frzA_o, frzA_no, frzI_1, frzI_2, frzI_c, frzI_e, frzI_z, bind_nm, bind_tp, fitTs_nil, fitTs_nm, fitTs_tp, setTs_nil, setTs_nm, setTs_tp, wipe_nil, wipe_cons, noMut_non, noMut_b, noMut_i, noMut_s, noMut_l, noMut_t, noMut_fr, noMutA_nil, noMutA_cons, noMutA_app, noMutAll_ints, OP_mul, OP_fdiv, OP_mod, bop, add_i, add_l, add_t, add_s, sub_i, mul_tl, mul_ll, flat_one, pow_i, cop_lt, cop_le, cop_gt, cop_ge, cop_eq, cop_ne, cop_is, cop_isnt, isD_nn, isD_in, isD_tn, isD_ln, isD_fn, eqD_int, eqD_str, tru_b, tru_n, tru_i, tru_l, tru_t, isEmpty_map, List.isEmpty_nil, List.isEmpty_cons, enm_map, zip_map', blt, un, bi, len_l, len_t, abs_i, int_i, tup_l, tup_t, lst_l, lst_t, max2_i, min2_i, sum_li, sum_ti, idx_0t, idx_1t, idx_2t, idx_0l, idxl_last, isaD, isIntD, isBoolD, isTupD, isStrD, asgS, isNew, putS, svsOf, svOf, mutsOk, mutOk, inMut, rds, permL, Option.map_some, Option.map_none, List.map_cons, List.map_nil, List.getElem?_cons_zero, List.getElem?_cons_succ, List.set_cons_zero, List.set_cons_succ, List.length_cons, List.length_nil, List.length_map, List.length_range, List.append_nil, List.nil_append, List.cons_append, List.contains_cons, List.contains_nil, List.getD_cons_zero, List.getD_cons_succ, Nat.reduceBEq, Nat.reduceAdd, Nat.zero_add, Nat.reduceLeDiff, Nat.reduceLT, Int.reduceLT, Int.reduceLE, Int.reduceNeg, Bool.or_false, Bool.false_or, Bool.or_true, Bool.true_or, Bool.and_true, Bool.true_and, Bool.and_self, Bool.not_true, Bool.not_false, Bool.false_eq_true, reduceCtorEq, if_true, if_false, ite_true, ite_false, true_and, and_true, and_self, decide_true, decide_false, eq_self, ne_eq, not_false_eq_true, not_true_eq_false, lim])
local macro_rules | `(tactic| walk_at "ws") => `(tactic| simp only [↓OW_nil, ↓OW_asg, ↓OW_par, ↓OW_asgt, ↓OW_exp, ↓OW_app, ↓OW_ext, ↓OW_popt, ↓OW_pmx, ↓OW_set, ↓OW_ret, ↓OW_retn, ↓OW_ife, ↓OW_brk, ↓OW_cnt, ↓OW_pass, ↓OW_for, ↓OW_whl, ↓SM_nil, ↓SM_var, ↓SM_idx, ↓W_var, ↓W_lit, ↓W_bin, ↓W_neg, ↓W_cmp, ↓W_chn, ↓W_and, ↓W_or, ↓Wb_one, ↓Wb_and, ↓Wb_or, ↓W_not, ↓W_ite, ↓W_tup, ↓W_lst, ↓W_idx, ↓W_slc, ↓W_rev, ↓W_blt, ↓W_isa, ↓Ws_nil, ↓Ws_cons, ↓Wo_nil, ↓Wo_cons, ↓W_call0, ↓W_call1, ↓W_callk, ↓W_comp, ↓Wi_rng1, ↓Wi_rng2, ↓Wi_zp, ↓Wi_cons, ↓Wi_enm, ↓hOP, ↓hCB, ↓hSEQ, ↓hIN, ↓hENM, ↓hNG, ↓hRV, ↓hOL, ↓hLS, ↓hCall, ↓hCW, ↓hFW, ↓hWW, ↓BK, ↓seqQ_nx, ↓seqQ_rt, ↓seqQ_bk, ↓seqQ_ct, ↓seqQ_ex, ↓loopQ_nx, ↓loopQ_ct, ↓loopQ_bk, ↓loopQ_rt, ↓loopQ_ex, ↓retQ_nx, ↓retQ_rt, ↓retQ_ex, ↓exQ_seq, ↓exQ_ret, IsDk_dk, OPh_some, OPh_none, OPh_map, OPh_ite, CBh_true, CBh_false, CBh_not, CBh_and, CBh_or, NGh_int, INh_int, RVh_l, RVh_t, SEQh_l, SEQh_t, ENMh_1, ENMh_2, OLh_own, LSh_l, CWh_nil, getD_0d, getD_0o, getD_s, aft_t, aft_f, aft_nd, frzA_nil, frzA_d, frzA_u, frzA_k, frzA_o, frzA_no, frzI_1, frzI_2, frzI_c, frzI_e, frzI_z, bind_nm, bind_tp, fitTs_nil, fitTs_nm, fitTs_tp, setTs_nil, setTs_nm, setTs_tp, wipe_nil, wipe_cons, noMut_non, noMut_b, noMut_i, noMut_s, noMut_l, noMut_t, noMut_fr, noMutA_nil, noMutA_cons, noMutA_app, noMutAll_ints, OP_mul, OP_fdiv, OP_mod, bop, add_i, add_l, add_t, add_s, sub_i, mul_tl, mul_ll, flat_one, pow_i, cop_lt, cop_le, cop_gt, cop_ge, cop_eq, cop_ne, cop_is, cop_isnt, isD_nn, isD_in, isD_tn, isD_ln, isD_fn, eqD_int, eqD_str, tru_b, tru_n, tru_i, tru_l, tru_t, isEmpty_map, List.isEmpty_nil, List.isEmpty_cons, enm_map, zip_map', blt, un, bi, len_l, len_t, abs_i, int_i, tup_l, tup_t, lst_l, lst_t, max2_i, min2_i, sum_li, sum_ti, idx_0t, idx_1t, idx_2t, idx_0l, idxl_last, isaD, isIntD, isBoolD, isTupD, isStrD, asgS, isNew, putS, svsOf, svOf, mutsOk, mutOk, inMut, rds, permL, Option.map_some, Option.map_none, List.map_cons, List.map_nil, List.getElem?_cons_zero, List.getElem?_cons_succ, List.set_cons_zero, List.set_cons_succ, List.length_cons, List.length_nil, List.length_map, List.length_range, List.append_nil, List.nil_append, List.cons_append, List.contains_cons, List.contains_nil, List.getD_cons_zero, List.getD_cons_succ, Nat.reduceBEq, Nat.reduceAdd, Nat.zero_add, Nat.reduceLeDiff, Nat.reduceLT, Int.reduceLT, Int.reduceLE, Int.reduceNeg, Bool.or_false, Bool.false_or, Bool.or_true, Bool.true_or, Bool.and_true, Bool.true_and, Bool.and_self, Bool.not_true, Bool.not_false, Bool.false_eq_true, reduceCtorEq, if_true, if_false, ite_true, ite_false, true_and, and_true, and_self, decide_true, decide_false, eq_self, ne_eq, not_false_eq_true, not_true_eq_false, lim])
local macro_rules | `(tactic| walk_at "wa") => `(tactic| simp only [↓OW_c_asg, ↓OW_c_par, ↓OW_c_asgt, ↓OW_c_exp, ↓OW_c_app, ↓OW_c_ext, ↓OW_c_popt, ↓OW_c_pmx, ↓OW_c_set, ↓OW_c_ret, ↓OW_c_retn, ↓OW_c_brk, ↓OW_c_cnt, ↓OW_c_pass, ↓OW_nil, ↓OW_asg, ↓OW_par, ↓OW_asgt, ↓OW_exp, ↓OW_app, ↓OW_ext, ↓OW_popt, ↓OW_pmx, ↓OW_set, ↓OW_ret, ↓OW_retn, ↓OW_ife, ↓OW_brk, ↓OW_cnt, ↓OW_pass, ↓OW_for, ↓OW_whl, ↓SM_nil, ↓SM_var, ↓SM_idx, ↓W_var, ↓W_lit, ↓W_bin, ↓W_neg, ↓W_cmp, ↓W_chn, ↓W_and, ↓W_or, ↓Wb_one, ↓Wb_and, ↓Wb_or, ↓W_not, ↓W_ite, ↓W_tup, ↓W_lst, ↓W_idx, ↓W_slc, ↓W_rev, ↓W_blt, ↓W_isa, ↓Ws_nil, ↓Ws_cons, ↓Wo_nil, ↓Wo_cons, ↓W_call0, ↓W_call1, ↓W_callk, ↓W_comp, ↓Wi_rng1, ↓Wi_rng2, ↓Wi_zp, ↓Wi_cons, ↓Wi_enm, ↓hOP, ↓hCB, ↓hSEQ, ↓hIN, ↓hENM, ↓hNG, ↓hRV, ↓hOL, ↓hLS, ↓hCall, ↓hCW, ↓hFW, ↓hWW, ↓BK, ↓seqQ_nx, ↓seqQ_rt, ↓seqQ_bk, ↓seqQ_ct, ↓seqQ_ex, ↓loopQ_nx, ↓loopQ_ct, ↓loopQ_bk, ↓loopQ_rt, ↓loopQ_ex, ↓retQ_nx, ↓retQ_rt, ↓retQ_ex, ↓exQ_seq, ↓exQ_ret, IsDk_dk, OPh_some, OPh_none, OPh_map, OPh_ite, CBh_true, CBh_false, CBh_not, CBh_and, CBh_or, NGh_int, INh_int, RVh_l, RVh_t, SEQh_l, SEQh_t, ENMh_1, ENMh_2, OLh_own, LSh_l, CWh_nil, getD_0d, getD_0o, getD_s, aft_t, aft_f, aft_nd, frzA_nil, frzA_d, frzA_u, frzA_k, frzA_o, frzA_no, frzI_1, frzI_2, frzI_c, frzI_e, frzI_z, bind_nm, bind_tp, fitTs_nil, fitTs_nm, fitTs_tp, setTs_nil, setTs_nm, setTs_tp, wipe_nil, wipe_cons, noMut_non, noMut_b, noMut_i, noMut_s, noMut_l, noMut_t, noMut_fr, noMutA_nil, noMutA_cons, noMutA_app, noMutAll_ints, OP_mul, OP_fdiv, OP_mod, bop, add_i, add_l, add_t, add_s, sub_i, mul_tl, mul_ll, flat_one, pow_i, cop_lt, cop_le, cop_gt, cop_ge, cop_eq, cop_ne, cop_is, cop_isnt, isD_nn, isD_in, isD_tn, isD_ln, isD_fn, eqD_int, eqD_str, tru_b, tru_n, tru_i, tru_l, tru_t, isEmpty_map, List.isEmpty_nil, List.isEmpty_cons, enm_map, zip_map', blt, un, bi, len_l, len_t, abs_i, int_i, tup_l, tup_t, lst_l, lst_t, max2_i, min2_i, sum_li, sum_ti, idx_0t, idx_1t, idx_2t, idx_0l, idxl_last, isaD, isIntD, isBoolD, isTupD, isStrD, asgS, isNew, putS, svsOf, svOf, mutsOk, mutOk, inMut, rds, permL, Option.map_some, Option.map_none, List.map_cons, List.map_nil, List.getElem?_cons_zero, List.getElem?_cons_succ, List.set_cons_zero, List.set_cons_succ, List.length_cons, List.length_nil, List.length_map, List.length_range, List.append_nil, List.nil_append, List.cons_append, List.contains_cons, List.contains_nil, List.getD_cons_zero, List.getD_cons_succ, Nat.reduceBEq, Nat.reduceAdd, Nat.zero_add, Nat.reduceLeDiff, Nat.reduceLT, Int.reduceLT, Int.reduceLE, Int.reduceNeg, Bool.or_false, Bool.false_or, Bool.or_true, Bool.true_or, Bool.and_true, Bool.true_and, Bool.and_self, Bool.not_true, Bool.not_false, Bool.false_eq_true, reduceCtorEq, if_true, if_false, ite_true, ite_false, true_and, and_true, and_self, decide_true, decide_false, eq_self, ne_eq, not_false_eq_true, not_true_eq_false, lim, ↓OW_cons])
-- a statement that branches or loops, then the next ones

-- the next step of a proof of a run

section
variable {D : DK} {K : PySem.W.Frag}
def PDraw (ds : List Slim.D) (g : (deckGS D K).G) (k : Slim.D → (deckGS D K).G → Prop) (X : KX (deckGS D K)) : Prop := ∃ m : Int, ds = [.int m] ∧ 0 < m ∧ m < 2 ^ 60 ∧ few g ∧ ∀ (x : Int) (g' : (deckGS D K).G), 0 ≤ x → x < m → few g' → k (.int x) g'
def PPick (ds : List Slim.D) (g : (deckGS D K).G) (k : Slim.D → (deckGS D K).G → Prop) (X : KX (deckGS D K)) : Prop := ∃ xs, (ds = [.tuple xs] ∨ ds = [.list xs]) ∧ xs ≠ [] ∧ xs.length ≤ 1000 ∧ few g ∧ ∀ x ∈ xs, ∀ g' : (deckGS D K).G, few g' → k x g'
theorem draw_sp (c : DC) : SpF (drawF D K c) true 1 PDraw := by
  refine ⟨rfl, rfl, fun ds g k X p => ?_⟩
  obtain ⟨m, rfl, h1, h2, h3, h4⟩ := p
  have hlog : m.natAbs.log2 < 9000 := by
    have : m.natAbs < 2 ^ 60 := by omega
    have := (Nat.log2_lt (by omega : m.natAbs ≠ 0)).mpr this
    omega
  refine ⟨rfl, ?_⟩
  show RW (if 0 < m ∧ m.natAbs.log2 < 9000 ∧ g.left.length ≤ 1000 then .ok (.int (drawG c m g).1) (drawG c m g).2 else .no) k X
  rw [if_pos ⟨h1, hlog, h3⟩]
  exact h4 _ _ (draw_range c m g h1).1 (draw_range c m g h1).2 (Nat.le_trans (draw_left c m g) h3)
theorem pick_sp (T : Tab (deckGS D K)) (n : Nat) (h : Sp T "_law_draw" true PDraw) : SpF (S := deckGS D K) ⟨true, 1, runF T true 2 n t__law_pick⟩ true 1 PPick := by
  refine ⟨rfl, rfl, fun ds g k X p => ?_⟩
  obtain ⟨xs, hd, h1, h2, h3, h4⟩ := p
  have hp := List.length_pos_iff.mpr h1
  have main : ∀ d, lenD d = some (.int xs.length) → (∀ i : Int, idxD d (.int i) = (ixN xs.length i).bind fun l => xs[l]?) → OW T n t__law_pick [.dk, .dat d] g (retQ k X) := by
    intro d e1 e2
    unfold t__law_pick
    simp only [↓OW_c_asg, ↓OW_c_par, ↓OW_c_asgt, ↓OW_c_exp, ↓OW_c_app, ↓OW_c_ext, ↓OW_c_popt, ↓OW_c_pmx, ↓OW_c_set, ↓OW_c_ret, ↓OW_c_retn, ↓OW_c_brk, ↓OW_c_cnt, ↓OW_c_pass, ↓OW_nil, ↓OW_asg, ↓OW_par, ↓OW_asgt, ↓OW_exp, ↓OW_app, ↓OW_ext, ↓OW_popt, ↓OW_pmx, ↓OW_set, ↓OW_ret, ↓OW_retn, ↓OW_ife, ↓OW_brk, ↓OW_cnt, ↓OW_pass, ↓OW_for, ↓OW_whl, ↓SM_nil, ↓SM_var, ↓SM_idx, ↓W_var, ↓W_lit, ↓W_bin, ↓W_neg, ↓W_cmp, ↓W_chn, ↓W_and, ↓W_or, ↓Wb_one, ↓Wb_and, ↓Wb_or, ↓W_not, ↓W_ite, ↓W_tup, ↓W_lst, ↓W_idx, ↓W_slc, ↓W_rev, ↓W_blt, ↓W_isa, ↓Ws_nil, ↓Ws_cons, ↓Wo_nil, ↓Wo_cons, ↓W_call0, ↓W_call1, ↓W_callk, ↓W_comp, ↓Wi_rng1, ↓Wi_rng2, ↓Wi_zp, ↓Wi_cons, ↓Wi_enm, ↓hOP, ↓hCB, ↓hSEQ, ↓hIN, ↓hENM, ↓hNG, ↓hRV, ↓hOL, ↓hLS, ↓hCall, ↓hCW, ↓hFW, ↓hWW, ↓BK, ↓seqQ_nx, ↓seqQ_rt, ↓seqQ_bk, ↓seqQ_ct, ↓seqQ_ex, ↓loopQ_nx, ↓loopQ_ct, ↓loopQ_bk, ↓loopQ_rt, ↓loopQ_ex, ↓retQ_nx, ↓retQ_rt, ↓retQ_ex, ↓exQ_seq, ↓exQ_ret, IsDk_dk, OPh_some, OPh_none, OPh_map, OPh_ite, CBh_true, CBh_false, CBh_not, CBh_and, CBh_or, NGh_int, INh_int, RVh_l, RVh_t, SEQh_l, SEQh_t, ENMh_1, ENMh_2, OLh_own, LSh_l, CWh_nil, getD_0d, getD_0o, getD_s, aft_t, aft_f, aft_nd, frzA_nil, frzA_d, frzA_u, frzA_k, frzA_o, frzA_no, frzI_1, frzI_2, frzI_c, frzI_e, frzI_z, bind_nm, bind_tp, fitTs_nil, fitTs_nm, fitTs_tp, setTs_nil, setTs_nm, setTs_tp, wipe_nil, wipe_cons, noMut_non, noMut_b, noMut_i, noMut_s, noMut_l, noMut_t, noMut_fr, noMutA_nil, noMutA_cons, noMutA_app, noMutAll_ints, OP_mul, OP_fdiv, OP_mod, bop, add_i, add_l, add_t, add_s, sub_i, mul_tl, mul_ll, flat_one, pow_i, cop_lt, cop_le, cop_gt, cop_ge, cop_eq, cop_ne, cop_is, cop_isnt, isD_nn, isD_in, isD_tn, isD_ln, isD_fn, eqD_int, eqD_str, tru_b, tru_n, tru_i, tru_l, tru_t, isEmpty_map, List.isEmpty_nil, List.isEmpty_cons, enm_map, zip_map', blt, un, bi, len_l, len_t, abs_i, int_i, tup_l, tup_t, lst_l, lst_t, max2_i, min2_i, sum_li, sum_ti, idx_0t, idx_1t, idx_2t, idx_0l, idxl_last, isaD, isIntD, isBoolD, isTupD, isStrD, asgS, isNew, putS, svsOf, svOf, mutsOk, mutOk, inMut, rds, permL, Option.map_some, Option.map_none, List.map_cons, List.map_nil, List.getElem?_cons_zero, List.getElem?_cons_succ, List.set_cons_zero, List.set_cons_succ, List.length_cons, List.length_nil, List.length_map, List.length_range, List.append_nil, List.nil_append, List.cons_append, List.contains_cons, List.contains_nil, List.getD_cons_zero, List.getD_cons_succ, Nat.reduceBEq, Nat.reduceAdd, Nat.zero_add, Nat.reduceLeDiff, Nat.reduceLT, Int.reduceLT, Int.reduceLE, Int.reduceNeg, Bool.or_false, Bool.false_or, Bool.or_true, Bool.true_or, Bool.and_true, Bool.true_and, Bool.and_self, Bool.not_true, Bool.not_false, Bool.false_eq_true, reduceCtorEq, if_true, if_false, ite_true, ite_false, true_and, and_true, and_self, decide_true, decide_false, eq_self, ne_eq, not_false_eq_true, not_true_eq_false, lim, e1]
    (refine ⟨Sp.has (by assumption), ?_⟩)
    refine h.callH ⟨_, rfl, by omega, by omega, h3, fun x g' x0 x1 hg => ?_⟩
    have hn : x.toNat < xs.length := by omega
    walk_at "wp"
    refine OPh_of (a := xs[x.toNat]) ?_ ?_
    · rw [e2, ixN_p x0 x1]; simp only [Option.bind_some]; exact List.getElem?_eq_getElem hn
    · exact h4 _ (List.getElem_mem hn) g' hg
  rcases hd with rfl | rfl
  · exact ⟨rfl, by rw [RW_runF]; exact main _ rfl fun _ => rfl⟩
  · exact ⟨rfl, by rw [RW_runF]; exact main _ rfl fun _ => rfl⟩
/-- ints within bounds -/
def AllI (lo hi : Int) : List Slim.D → Prop
  | [] => True
  | .int i :: r => (lo ≤ i ∧ i ≤ hi) ∧ AllI lo hi r
  | _ => False
theorem AllI.mem {lo hi : Int} : ∀ {xs : List Slim.D}, AllI lo hi xs → ∀ x ∈ xs, ∃ i, x = .int i ∧ lo ≤ i ∧ i ≤ hi
  | [], _, x, hx => (List.not_mem_nil hx).elim
  | .int i :: r, h, x, hx => by
    rcases List.mem_cons.mp hx with rfl | hx
    · exact ⟨i, rfl, h.1.1, h.1.2⟩
    · exact AllI.mem h.2 x hx
  | .none :: _, h, _, _ => h.elim
  | .bool _ :: _, h, _, _ => h.elim
  | .str _ :: _, h, _, _ => h.elim
  | .list _ :: _, h, _, _ => h.elim
  | .tuple _ :: _, h, _, _ => h.elim
  | .dict _ :: _, h, _, _ => h.elim
variable {T : Tab (deckGS D K)} {k : Hid (Slim.D → (deckGS D K).G → Prop)} {X : Hid (KX (deckGS D K))} {g : (deckGS D K).G}
theorem Sp.draw (h : Sp T "_law_draw" true PDraw) {m : Int} (h1 : 0 < m) (h2 : m < 2 ^ 60) (hg : few g) (hk : ∀ (x : Int) (g' : (deckGS D K).G), 0 ≤ x → x < m → few g' → k.v (.int x) g') : CallH T "_law_draw" [.int m] g := h.callH ⟨m, rfl, h1, h2, hg, hk⟩
theorem Sp.pickI (h : Sp T "_law_pick" true PPick) (lo hi : Int) {x0 : Slim.D} {xs : List Slim.D} (ha : AllI lo hi (x0 :: xs)) (hl : xs.length < 1000) (hg : few g) (hk : ∀ (x : Int) (g' : (deckGS D K).G), lo ≤ x → x ≤ hi → few g' → k.v (.int x) g') : CallH T "_law_pick" [.tuple (x0 :: xs)] g :=
  h.callH ⟨_, .inl rfl, by simp, by rw [List.length_cons]; omega, hg, fun x hx g' hg' => by obtain ⟨i, rfl, h1, h2⟩ := ha.mem x hx; exact hk i g' h1 h2 hg'⟩
theorem Sp.pickL (h : Sp T "_law_pick" true PPick) (lo hi : Int) {x0 : Slim.D} {xs : List Slim.D} (ha : AllI lo hi (x0 :: xs)) (hl : xs.length < 1000) (hg : few g) (hk : ∀ (x : Int) (g' : (deckGS D K).G), lo ≤ x → x ≤ hi → few g' → k.v (.int x) g') : CallH T "_law_pick" [.list (x0 :: xs)] g :=
  h.callH ⟨_, .inr rfl, by simp, by rw [List.length_cons]; omega, hg, fun x hx g' hg' => by obtain ⟨i, rfl, h1, h2⟩ := ha.mem x hx; exact hk i g' h1 h2 hg'⟩
/-- a pick among what stands for a list -/
theorem Sp.pickM {α : Type} {f : α → Slim.D} {xs : List α} (h : Sp T "_law_pick" true PPick) (h1 : xs ≠ []) (h2 : xs.length ≤ 1000) (hg : few g) (hk : ∀ a ∈ xs, ∀ g' : (deckGS D K).G, few g' → k.v (f a) g') : CallH T "_law_pick" [.tuple (xs.map f)] g :=
  h.callH ⟨_, .inl rfl, fun z => h1 (List.map_eq_nil_iff.mp z), by rw [List.length_map]; exact h2, hg, fun x hx g' hg' => by obtain ⟨a, ha, rfl⟩ := List.mem_map.mp hx; exact hk a ha g' hg'⟩
theorem Sp.pickN {α : Type} {f : α → Slim.D} {xs : List α} (h : Sp T "_law_pick" true PPick) (h1 : xs ≠ []) (h2 : xs.length ≤ 1000) (hg : few g) (hk : ∀ a ∈ xs, ∀ g' : (deckGS D K).G, few g' → k.v (f a) g') : CallH T "_law_pick" [.list (xs.map f)] g :=
  h.callH ⟨_, .inr rfl, fun z => h1 (List.map_eq_nil_iff.mp z), by rw [List.length_map]; exact h2, hg, fun x hx g' hg' => by obtain ⟨a, ha, rfl⟩ := List.mem_map.mp hx; exact hk a ha g' hg'⟩
end


set_option Elab.async false
set_option linter.all false
set_option maxRecDepth 100000
set_option maxHeartbeats 4000000

open PySem PySem.Spec PyProof.Rows L2 Slim
section
variable {D : DK} {K : PySem.W.Frag}
def PWeights (ds : List Slim.D) (g : (deckGS D K).G) (k : Slim.D → (deckGS D K).G → Prop) (X : KX (deckGS D K)) : Prop := ds = [] ∧ few g ∧ ∀ ws (g' : (deckGS D K).G), okW ws → few g' → k (wD ws) g'
theorem okW.mk' {ws : List Int} {m : Nat} (h0 : 0 < m) (h8 : m ≤ 8) (hl : ws.length = m) (h : ∀ w ∈ ws, 1 ≤ w ∧ w ≤ 12) : okW ws := ⟨fun z => by rw [z] at hl; simp at hl; omega, by omega, h⟩
theorem weights_sp (T : Tab (deckGS D K)) (n : Nat) (h1 : Sp T "_law_draw" true PDraw) (h2 : Sp T "_law_pick" true PPick) : SpF (S := deckGS D K) ⟨true, 0, runF T true 5 n t__law_weights⟩ true 0 PWeights := by
  refine ⟨rfl, rfl, fun ds g k X p => ?_⟩
  obtain ⟨rfl, hg, hk⟩ := p
  refine ⟨rfl, ?_⟩
  rw [RW_runF]
  show OW T n t__law_weights [.dk, .un, .un, .un, .un] g (retQ k X)
  unfold t__law_weights
  walk_at "wp"
  (refine ⟨Sp.has (by assumption), ?_⟩)
  refine h2.pickI 1 8 (by simp [AllI]) (by simp) hg fun many g hm1 hm2 hg => ?_
  walk_at "wp"
  (refine ⟨Sp.has (by assumption), ?_⟩)
  refine h1.draw (by omega) (by omega) hg fun way g hw1 hw2 hg => ?_
  walk_at "wp"
  (rw [OW_cons]; walk_at "wp")
  refine CB_i' (fun h => ?_) (fun h => ?_)
  · walk_at "wp"
    (refine ⟨Sp.has (by assumption), ?_⟩)
    refine h2.pickI 1 12 (by simp [AllI]) (by simp) hg fun w g hw1 hw2 hg => ?_
    walk_at "wp"
    refine ⟨by omega, ?_⟩
    rw [← List.map_replicate]
    exact hk _ g (okW.mk' (m := many.toNat) (by omega) (by omega) List.length_replicate fun x hx => by rw [List.eq_of_mem_replicate hx]; exact ⟨hw1, hw2⟩) hg
  · have fin : ∀ (bs : List Int) (g : (deckGS D K).G), Rl2 (fun (_ : Nat) (b : Int) => 1 ≤ b ∧ b ≤ 12) (List.range many.toNat) bs → few g → k (.tuple (bs.map PyData.int)) g := fun bs g r hg => by
      refine hk bs g (okW.mk' (m := many.toNat) (by omega) (by omega) (by rw [r.length, List.length_range]) ?_) hg
      exact r.all (Q := fun b => 1 ≤ b ∧ b ≤ 12) fun a b h => h
    walk_at "wp"
    (rw [OW_cons]; walk_at "wp")
    refine CB_i' (fun h => ?_) (fun h => ?_)
    · walk_at "wp"
      refine ⟨by omega, by omega, CWh_draw PyData.int _ few hg (fun a _ g hg K' hK => ?_) fin⟩
      unfold BD
      walk_at "wp"
      (refine ⟨Sp.has (by assumption), ?_⟩)
      refine h2.pickI 1 12 (by simp [AllI]) (by simp) hg fun w g hw1 hw2 hg => ?_
      exact hK _ _ ⟨hw1, hw2⟩ hg
    · walk_at "wp"
      refine ⟨by omega, by omega, CWh_draw PyData.int _ few hg (fun a _ g hg K' hK => ?_) fin⟩
      unfold BD
      walk_at "wp"
      (refine ⟨Sp.has (by assumption), ?_⟩)
      have e : ∃ m : Int, idxD (.tuple [.int 3, .int 12]) (.int (way - 2)) = some (.int m) ∧ 0 < m ∧ m ≤ 12 := by
        have : way = 2 ∨ way = 3 := by omega
        rcases this with rfl | rfl
        · exact ⟨3, idx_0t, by decide, by decide⟩
        · exact ⟨12, idx_1t, by decide, by decide⟩
      obtain ⟨m, e, e1, e2⟩ := e
      simp only [↓OW_c_asg, ↓OW_c_par, ↓OW_c_asgt, ↓OW_c_exp, ↓OW_c_app, ↓OW_c_ext, ↓OW_c_popt, ↓OW_c_pmx, ↓OW_c_set, ↓OW_c_ret, ↓OW_c_retn, ↓OW_c_brk, ↓OW_c_cnt, ↓OW_c_pass, ↓OW_nil, ↓OW_asg, ↓OW_par, ↓OW_asgt, ↓OW_exp, ↓OW_app, ↓OW_ext, ↓OW_popt, ↓OW_pmx, ↓OW_set, ↓OW_ret, ↓OW_retn, ↓OW_ife, ↓OW_brk, ↓OW_cnt, ↓OW_pass, ↓OW_for, ↓OW_whl, ↓SM_nil, ↓SM_var, ↓SM_idx, ↓W_var, ↓W_lit, ↓W_bin, ↓W_neg, ↓W_cmp, ↓W_chn, ↓W_and, ↓W_or, ↓Wb_one, ↓Wb_and, ↓Wb_or, ↓W_not, ↓W_ite, ↓W_tup, ↓W_lst, ↓W_idx, ↓W_slc, ↓W_rev, ↓W_blt, ↓W_isa, ↓Ws_nil, ↓Ws_cons, ↓Wo_nil, ↓Wo_cons, ↓W_call0, ↓W_call1, ↓W_callk, ↓W_comp, ↓Wi_rng1, ↓Wi_rng2, ↓Wi_zp, ↓Wi_cons, ↓Wi_enm, ↓hOP, ↓hCB, ↓hSEQ, ↓hIN, ↓hENM, ↓hNG, ↓hRV, ↓hOL, ↓hLS, ↓hCall, ↓hCW, ↓hFW, ↓hWW, ↓BK, ↓seqQ_nx, ↓seqQ_rt, ↓seqQ_bk, ↓seqQ_ct, ↓seqQ_ex, ↓loopQ_nx, ↓loopQ_ct, ↓loopQ_bk, ↓loopQ_rt, ↓loopQ_ex, ↓retQ_nx, ↓retQ_rt, ↓retQ_ex, ↓exQ_seq, ↓exQ_ret, IsDk_dk, OPh_some, OPh_none, OPh_map, OPh_ite, CBh_true, CBh_false, CBh_not, CBh_and, CBh_or, NGh_int, INh_int, RVh_l, RVh_t, SEQh_l, SEQh_t, ENMh_1, ENMh_2, OLh_own, LSh_l, CWh_nil, getD_0d, getD_0o, getD_s, aft_t, aft_f, aft_nd, frzA_nil, frzA_d, frzA_u, frzA_k, frzA_o, frzA_no, frzI_1, frzI_2, frzI_c, frzI_e, frzI_z, bind_nm, bind_tp, fitTs_nil, fitTs_nm, fitTs_tp, setTs_nil, setTs_nm, setTs_tp, wipe_nil, wipe_cons, noMut_non, noMut_b, noMut_i, noMut_s, noMut_l, noMut_t, noMut_fr, noMutA_nil, noMutA_cons, noMutA_app, noMutAll_ints, OP_mul, OP_fdiv, OP_mod, bop, add_i, add_l, add_t, add_s, sub_i, mul_tl, mul_ll, flat_one, pow_i, cop_lt, cop_le, cop_gt, cop_ge, cop_eq, cop_ne, cop_is, cop_isnt, isD_nn, isD_in, isD_tn, isD_ln, isD_fn, eqD_int, eqD_str, tru_b, tru_n, tru_i, tru_l, tru_t, isEmpty_map, List.isEmpty_nil, List.isEmpty_cons, enm_map, zip_map', blt, un, bi, len_l, len_t, abs_i, int_i, tup_l, tup_t, lst_l, lst_t, max2_i, min2_i, sum_li, sum_ti, idx_0t, idx_1t, idx_2t, idx_0l, idxl_last, isaD, isIntD, isBoolD, isTupD, isStrD, asgS, isNew, putS, svsOf, svOf, mutsOk, mutOk, inMut, rds, permL, Option.map_some, Option.map_none, List.map_cons, List.map_nil, List.getElem?_cons_zero, List.getElem?_cons_succ, List.set_cons_zero, List.set_cons_succ, List.length_cons, List.length_nil, List.length_map, List.length_range, List.append_nil, List.nil_append, List.cons_append, List.contains_cons, List.contains_nil, List.getD_cons_zero, List.getD_cons_succ, Nat.reduceBEq, Nat.reduceAdd, Nat.zero_add, Nat.reduceLeDiff, Nat.reduceLT, Int.reduceLT, Int.reduceLE, Int.reduceNeg, Bool.or_false, Bool.false_or, Bool.or_true, Bool.true_or, Bool.and_true, Bool.true_and, Bool.and_self, Bool.not_true, Bool.not_false, Bool.false_eq_true, reduceCtorEq, if_true, if_false, ite_true, ite_false, true_and, and_true, and_self, decide_true, decide_false, eq_self, ne_eq, not_false_eq_true, not_true_eq_false, lim, e]
      refine h1.draw (by omega) (by omega) hg fun w g hw1 hw2 hg => ?_
      walk_at "wp"
      exact hK _ _ ⟨by omega, by omega⟩ hg
end


set_option Elab.async false
set_option linter.all false
set_option maxRecDepth 100000
set_option maxHeartbeats 4000000
/-! L1: kinds.py, flows.py. -/

open PySem PySem.Spec PyProof.Rows L2 Slim

/-- a def of one value -/
def PB {S : GS} (fn : Slim.D → Bool) (ok : Slim.D → Prop) (ds : List Slim.D) (g : S.G) (k : Slim.D → S.G → Prop) (X : KX S) : Prop := ∃ d, ds = [d] ∧ ok d ∧ k (.bool (fn d)) g
def any (d : Slim.D) : Prop := True
def isF1 : Slim.D → Bool
  | .int i => decide (1 ≤ i)
  | _ => false
def isF0 : Slim.D → Bool
  | .int i => decide (0 ≤ i)
  | _ => false
def isPos (n : Int) : Slim.D → Bool
  | .int i => decide (0 ≤ i) && decide (i < n)
  | _ => false
def isWts : Slim.D → Bool
  | .tuple xs => !xs.isEmpty && xs.all isF1
  | _ => false
def fewD : Slim.D → Prop
  | .tuple xs => xs.length < lim
  | .list xs => xs.length < lim
  | _ => True
def isPkS : Slim.D → Bool
  | .tuple [m, f, l] => isF0 m && (isF0 f && isF1 l)
  | _ => false
def momD : Slim.D → Int
  | .tuple (.int m :: _) => m
  | _ => 0
def srtd (ms : List Int) : Bool := decide (ms = ms.mergeSort fun a b => decide (a ≤ b))
def isArrS : Slim.D → Bool
  | .tuple xs => xs.all isPkS && srtd (xs.map momD)
  | _ => false
def flowD : Slim.D → Slim.D
  | .tuple [_, f, _] => f
  | _ => .none
def isArr (n : Int) : Slim.D → Bool
  | .tuple xs => xs.all isPkS && srtd (xs.map momD) && xs.all fun p => isPos n (flowD p)
  | _ => false
theorem isPkS3 (m f l : Slim.D) : isPkS (.tuple [m, f, l]) = (isF0 m && (isF0 f && isF1 l)) := rfl
theorem isF0_i (i : Int) : isF0 (.int i) = decide (0 ≤ i) := rfl
theorem isF1_i (i : Int) : isF1 (.int i) = decide (1 ≤ i) := rfl
theorem isPkS_form {d : Slim.D} (h : isPkS d = true) : ∃ m f l, d = .tuple [.int m, .int f, .int l] ∧ 0 ≤ m ∧ 0 ≤ f ∧ 1 ≤ l := by
  unfold isPkS at h
  split at h
  · rename_i m f l
    simp only [Bool.and_eq_true] at h
    obtain ⟨h1, h2, h3⟩ := h
    cases m <;> simp only [isF0] at h1 <;> try contradiction
    cases f <;> simp only [isF0] at h2 <;> try contradiction
    cases l <;> simp only [isF1] at h3 <;> try contradiction
    exact ⟨_, _, _, rfl, of_decide_eq_true h1, of_decide_eq_true h2, of_decide_eq_true h3⟩
  · cases h
theorem sort_li {ns : List Int} : sortD (.list (ns.map .int)) = some (.list ((ns.mergeSort fun a b => decide (a ≤ b)).map .int)) := by
  unfold sortD; simp only [ints_map, Option.map_some]
section
variable {S : GS}
theorem is_whole_sp (T : Tab S) (n : Nat) : SpF (S := S) ⟨false, 1, runF T false 1 n t_is_whole⟩ false 1 (PB isWh any) := by
  refine ⟨rfl, rfl, fun ds g k X p => ?_⟩
  obtain ⟨d, rfl, h0, hk⟩ := p
  clear h0
  refine ⟨rfl, ?_⟩
  rw [RW_runF]
  show OW T n t_is_whole [.dat d] g (retQ k X)
  unfold t_is_whole
  walk_at "wa"
  cases d <;> walk_at "wa" <;> exact hk
theorem is_from_one_sp (T : Tab S) (n : Nat) (h1 : Sp T "is_whole" false (PB isWh any)) : SpF (S := S) ⟨false, 1, runF T false 1 n t_is_from_one⟩ false 1 (PB isF1 any) := by
  refine ⟨rfl, rfl, fun ds g k X p => ?_⟩
  obtain ⟨d, rfl, h0, hk⟩ := p
  clear h0
  refine ⟨rfl, ?_⟩
  rw [RW_runF]
  show OW T n t_is_from_one [.dat d] g (retQ k X)
  unfold t_is_from_one
  walk_at "wa"
  (refine ⟨Sp.has (by assumption), ?_⟩)
  refine h1.callH ⟨_, rfl, trivial, ?_⟩
  cases d <;> simp only [↓OW_c_asg, ↓OW_c_par, ↓OW_c_asgt, ↓OW_c_exp, ↓OW_c_app, ↓OW_c_ext, ↓OW_c_popt, ↓OW_c_pmx, ↓OW_c_set, ↓OW_c_ret, ↓OW_c_retn, ↓OW_c_brk, ↓OW_c_cnt, ↓OW_c_pass, ↓OW_nil, ↓OW_asg, ↓OW_par, ↓OW_asgt, ↓OW_exp, ↓OW_app, ↓OW_ext, ↓OW_popt, ↓OW_pmx, ↓OW_set, ↓OW_ret, ↓OW_retn, ↓OW_ife, ↓OW_brk, ↓OW_cnt, ↓OW_pass, ↓OW_for, ↓OW_whl, ↓SM_nil, ↓SM_var, ↓SM_idx, ↓W_var, ↓W_lit, ↓W_bin, ↓W_neg, ↓W_cmp, ↓W_chn, ↓W_and, ↓W_or, ↓Wb_one, ↓Wb_and, ↓Wb_or, ↓W_not, ↓W_ite, ↓W_tup, ↓W_lst, ↓W_idx, ↓W_slc, ↓W_rev, ↓W_blt, ↓W_isa, ↓Ws_nil, ↓Ws_cons, ↓Wo_nil, ↓Wo_cons, ↓W_call0, ↓W_call1, ↓W_callk, ↓W_comp, ↓Wi_rng1, ↓Wi_rng2, ↓Wi_zp, ↓Wi_cons, ↓Wi_enm, ↓hOP, ↓hCB, ↓hSEQ, ↓hIN, ↓hENM, ↓hNG, ↓hRV, ↓hOL, ↓hLS, ↓hCall, ↓hCW, ↓hFW, ↓hWW, ↓BK, ↓seqQ_nx, ↓seqQ_rt, ↓seqQ_bk, ↓seqQ_ct, ↓seqQ_ex, ↓loopQ_nx, ↓loopQ_ct, ↓loopQ_bk, ↓loopQ_rt, ↓loopQ_ex, ↓retQ_nx, ↓retQ_rt, ↓retQ_ex, ↓exQ_seq, ↓exQ_ret, IsDk_dk, OPh_some, OPh_none, OPh_map, OPh_ite, CBh_true, CBh_false, CBh_not, CBh_and, CBh_or, NGh_int, INh_int, RVh_l, RVh_t, SEQh_l, SEQh_t, ENMh_1, ENMh_2, OLh_own, LSh_l, CWh_nil, getD_0d, getD_0o, getD_s, aft_t, aft_f, aft_nd, frzA_nil, frzA_d, frzA_u, frzA_k, frzA_o, frzA_no, frzI_1, frzI_2, frzI_c, frzI_e, frzI_z, bind_nm, bind_tp, fitTs_nil, fitTs_nm, fitTs_tp, setTs_nil, setTs_nm, setTs_tp, wipe_nil, wipe_cons, noMut_non, noMut_b, noMut_i, noMut_s, noMut_l, noMut_t, noMut_fr, noMutA_nil, noMutA_cons, noMutA_app, noMutAll_ints, OP_mul, OP_fdiv, OP_mod, bop, add_i, add_l, add_t, add_s, sub_i, mul_tl, mul_ll, flat_one, pow_i, cop_lt, cop_le, cop_gt, cop_ge, cop_eq, cop_ne, cop_is, cop_isnt, isD_nn, isD_in, isD_tn, isD_ln, isD_fn, eqD_int, eqD_str, tru_b, tru_n, tru_i, tru_l, tru_t, isEmpty_map, List.isEmpty_nil, List.isEmpty_cons, enm_map, zip_map', blt, un, bi, len_l, len_t, abs_i, int_i, tup_l, tup_t, lst_l, lst_t, max2_i, min2_i, sum_li, sum_ti, idx_0t, idx_1t, idx_2t, idx_0l, idxl_last, isaD, isIntD, isBoolD, isTupD, isStrD, asgS, isNew, putS, svsOf, svOf, mutsOk, mutOk, inMut, rds, permL, Option.map_some, Option.map_none, List.map_cons, List.map_nil, List.getElem?_cons_zero, List.getElem?_cons_succ, List.set_cons_zero, List.set_cons_succ, List.length_cons, List.length_nil, List.length_map, List.length_range, List.append_nil, List.nil_append, List.cons_append, List.contains_cons, List.contains_nil, List.getD_cons_zero, List.getD_cons_succ, Nat.reduceBEq, Nat.reduceAdd, Nat.zero_add, Nat.reduceLeDiff, Nat.reduceLT, Int.reduceLT, Int.reduceLE, Int.reduceNeg, Bool.or_false, Bool.false_or, Bool.or_true, Bool.true_or, Bool.and_true, Bool.true_and, Bool.and_self, Bool.not_true, Bool.not_false, Bool.false_eq_true, reduceCtorEq, if_true, if_false, ite_true, ite_false, true_and, and_true, and_self, decide_true, decide_false, eq_self, ne_eq, not_false_eq_true, not_true_eq_false, lim, ↓OW_cons, isWh] <;> exact hk
theorem is_flow_of_some_sp (T : Tab S) (n : Nat) (h1 : Sp T "is_whole" false (PB isWh any)) : SpF (S := S) ⟨false, 1, runF T false 1 n t_is_flow_of_some⟩ false 1 (PB isF0 any) := by
  refine ⟨rfl, rfl, fun ds g k X p => ?_⟩
  obtain ⟨d, rfl, h0, hk⟩ := p
  clear h0
  refine ⟨rfl, ?_⟩
  rw [RW_runF]
  show OW T n t_is_flow_of_some [.dat d] g (retQ k X)
  unfold t_is_flow_of_some
  walk_at "wa"
  (refine ⟨Sp.has (by assumption), ?_⟩)
  refine h1.callH ⟨_, rfl, trivial, ?_⟩
  cases d <;> simp only [↓OW_c_asg, ↓OW_c_par, ↓OW_c_asgt, ↓OW_c_exp, ↓OW_c_app, ↓OW_c_ext, ↓OW_c_popt, ↓OW_c_pmx, ↓OW_c_set, ↓OW_c_ret, ↓OW_c_retn, ↓OW_c_brk, ↓OW_c_cnt, ↓OW_c_pass, ↓OW_nil, ↓OW_asg, ↓OW_par, ↓OW_asgt, ↓OW_exp, ↓OW_app, ↓OW_ext, ↓OW_popt, ↓OW_pmx, ↓OW_set, ↓OW_ret, ↓OW_retn, ↓OW_ife, ↓OW_brk, ↓OW_cnt, ↓OW_pass, ↓OW_for, ↓OW_whl, ↓SM_nil, ↓SM_var, ↓SM_idx, ↓W_var, ↓W_lit, ↓W_bin, ↓W_neg, ↓W_cmp, ↓W_chn, ↓W_and, ↓W_or, ↓Wb_one, ↓Wb_and, ↓Wb_or, ↓W_not, ↓W_ite, ↓W_tup, ↓W_lst, ↓W_idx, ↓W_slc, ↓W_rev, ↓W_blt, ↓W_isa, ↓Ws_nil, ↓Ws_cons, ↓Wo_nil, ↓Wo_cons, ↓W_call0, ↓W_call1, ↓W_callk, ↓W_comp, ↓Wi_rng1, ↓Wi_rng2, ↓Wi_zp, ↓Wi_cons, ↓Wi_enm, ↓hOP, ↓hCB, ↓hSEQ, ↓hIN, ↓hENM, ↓hNG, ↓hRV, ↓hOL, ↓hLS, ↓hCall, ↓hCW, ↓hFW, ↓hWW, ↓BK, ↓seqQ_nx, ↓seqQ_rt, ↓seqQ_bk, ↓seqQ_ct, ↓seqQ_ex, ↓loopQ_nx, ↓loopQ_ct, ↓loopQ_bk, ↓loopQ_rt, ↓loopQ_ex, ↓retQ_nx, ↓retQ_rt, ↓retQ_ex, ↓exQ_seq, ↓exQ_ret, IsDk_dk, OPh_some, OPh_none, OPh_map, OPh_ite, CBh_true, CBh_false, CBh_not, CBh_and, CBh_or, NGh_int, INh_int, RVh_l, RVh_t, SEQh_l, SEQh_t, ENMh_1, ENMh_2, OLh_own, LSh_l, CWh_nil, getD_0d, getD_0o, getD_s, aft_t, aft_f, aft_nd, frzA_nil, frzA_d, frzA_u, frzA_k, frzA_o, frzA_no, frzI_1, frzI_2, frzI_c, frzI_e, frzI_z, bind_nm, bind_tp, fitTs_nil, fitTs_nm, fitTs_tp, setTs_nil, setTs_nm, setTs_tp, wipe_nil, wipe_cons, noMut_non, noMut_b, noMut_i, noMut_s, noMut_l, noMut_t, noMut_fr, noMutA_nil, noMutA_cons, noMutA_app, noMutAll_ints, OP_mul, OP_fdiv, OP_mod, bop, add_i, add_l, add_t, add_s, sub_i, mul_tl, mul_ll, flat_one, pow_i, cop_lt, cop_le, cop_gt, cop_ge, cop_eq, cop_ne, cop_is, cop_isnt, isD_nn, isD_in, isD_tn, isD_ln, isD_fn, eqD_int, eqD_str, tru_b, tru_n, tru_i, tru_l, tru_t, isEmpty_map, List.isEmpty_nil, List.isEmpty_cons, enm_map, zip_map', blt, un, bi, len_l, len_t, abs_i, int_i, tup_l, tup_t, lst_l, lst_t, max2_i, min2_i, sum_li, sum_ti, idx_0t, idx_1t, idx_2t, idx_0l, idxl_last, isaD, isIntD, isBoolD, isTupD, isStrD, asgS, isNew, putS, svsOf, svOf, mutsOk, mutOk, inMut, rds, permL, Option.map_some, Option.map_none, List.map_cons, List.map_nil, List.getElem?_cons_zero, List.getElem?_cons_succ, List.set_cons_zero, List.set_cons_succ, List.length_cons, List.length_nil, List.length_map, List.length_range, List.append_nil, List.nil_append, List.cons_append, List.contains_cons, List.contains_nil, List.getD_cons_zero, List.getD_cons_succ, Nat.reduceBEq, Nat.reduceAdd, Nat.zero_add, Nat.reduceLeDiff, Nat.reduceLT, Int.reduceLT, Int.reduceLE, Int.reduceNeg, Bool.or_false, Bool.false_or, Bool.or_true, Bool.true_or, Bool.and_true, Bool.true_and, Bool.and_self, Bool.not_true, Bool.not_false, Bool.false_eq_true, reduceCtorEq, if_true, if_false, ite_true, ite_false, true_and, and_true, and_self, decide_true, decide_false, eq_self, ne_eq, not_false_eq_true, not_true_eq_false, lim, ↓OW_cons, isWh] <;> exact hk
def PPos (ds : List Slim.D) (g : S.G) (k : Slim.D → S.G → Prop) (X : KX S) : Prop := ∃ d n, ds = [d, .int n] ∧ k (.bool (isPos n d)) g
theorem is_position_sp (T : Tab S) (n : Nat) (h1 : Sp T "is_whole" false (PB isWh any)) : SpF (S := S) ⟨false, 2, runF T false 2 n t_is_position⟩ false 2 PPos := by
  refine ⟨rfl, rfl, fun ds g k X p => ?_⟩
  obtain ⟨d, m, rfl, hk⟩ := p
  refine ⟨rfl, ?_⟩
  rw [RW_runF]
  show OW T n t_is_position [.dat d, .dat (.int m)] g (retQ k X)
  unfold t_is_position
  walk_at "wa"
  (refine ⟨Sp.has (by assumption), ?_⟩)
  refine h1.callH ⟨_, rfl, trivial, ?_⟩
  cases d <;> simp only [↓OW_c_asg, ↓OW_c_par, ↓OW_c_asgt, ↓OW_c_exp, ↓OW_c_app, ↓OW_c_ext, ↓OW_c_popt, ↓OW_c_pmx, ↓OW_c_set, ↓OW_c_ret, ↓OW_c_retn, ↓OW_c_brk, ↓OW_c_cnt, ↓OW_c_pass, ↓OW_nil, ↓OW_asg, ↓OW_par, ↓OW_asgt, ↓OW_exp, ↓OW_app, ↓OW_ext, ↓OW_popt, ↓OW_pmx, ↓OW_set, ↓OW_ret, ↓OW_retn, ↓OW_ife, ↓OW_brk, ↓OW_cnt, ↓OW_pass, ↓OW_for, ↓OW_whl, ↓SM_nil, ↓SM_var, ↓SM_idx, ↓W_var, ↓W_lit, ↓W_bin, ↓W_neg, ↓W_cmp, ↓W_chn, ↓W_and, ↓W_or, ↓Wb_one, ↓Wb_and, ↓Wb_or, ↓W_not, ↓W_ite, ↓W_tup, ↓W_lst, ↓W_idx, ↓W_slc, ↓W_rev, ↓W_blt, ↓W_isa, ↓Ws_nil, ↓Ws_cons, ↓Wo_nil, ↓Wo_cons, ↓W_call0, ↓W_call1, ↓W_callk, ↓W_comp, ↓Wi_rng1, ↓Wi_rng2, ↓Wi_zp, ↓Wi_cons, ↓Wi_enm, ↓hOP, ↓hCB, ↓hSEQ, ↓hIN, ↓hENM, ↓hNG, ↓hRV, ↓hOL, ↓hLS, ↓hCall, ↓hCW, ↓hFW, ↓hWW, ↓BK, ↓seqQ_nx, ↓seqQ_rt, ↓seqQ_bk, ↓seqQ_ct, ↓seqQ_ex, ↓loopQ_nx, ↓loopQ_ct, ↓loopQ_bk, ↓loopQ_rt, ↓loopQ_ex, ↓retQ_nx, ↓retQ_rt, ↓retQ_ex, ↓exQ_seq, ↓exQ_ret, IsDk_dk, OPh_some, OPh_none, OPh_map, OPh_ite, CBh_true, CBh_false, CBh_not, CBh_and, CBh_or, NGh_int, INh_int, RVh_l, RVh_t, SEQh_l, SEQh_t, ENMh_1, ENMh_2, OLh_own, LSh_l, CWh_nil, getD_0d, getD_0o, getD_s, aft_t, aft_f, aft_nd, frzA_nil, frzA_d, frzA_u, frzA_k, frzA_o, frzA_no, frzI_1, frzI_2, frzI_c, frzI_e, frzI_z, bind_nm, bind_tp, fitTs_nil, fitTs_nm, fitTs_tp, setTs_nil, setTs_nm, setTs_tp, wipe_nil, wipe_cons, noMut_non, noMut_b, noMut_i, noMut_s, noMut_l, noMut_t, noMut_fr, noMutA_nil, noMutA_cons, noMutA_app, noMutAll_ints, OP_mul, OP_fdiv, OP_mod, bop, add_i, add_l, add_t, add_s, sub_i, mul_tl, mul_ll, flat_one, pow_i, cop_lt, cop_le, cop_gt, cop_ge, cop_eq, cop_ne, cop_is, cop_isnt, isD_nn, isD_in, isD_tn, isD_ln, isD_fn, eqD_int, eqD_str, tru_b, tru_n, tru_i, tru_l, tru_t, isEmpty_map, List.isEmpty_nil, List.isEmpty_cons, enm_map, zip_map', blt, un, bi, len_l, len_t, abs_i, int_i, tup_l, tup_t, lst_l, lst_t, max2_i, min2_i, sum_li, sum_ti, idx_0t, idx_1t, idx_2t, idx_0l, idxl_last, isaD, isIntD, isBoolD, isTupD, isStrD, asgS, isNew, putS, svsOf, svOf, mutsOk, mutOk, inMut, rds, permL, Option.map_some, Option.map_none, List.map_cons, List.map_nil, List.getElem?_cons_zero, List.getElem?_cons_succ, List.set_cons_zero, List.set_cons_succ, List.length_cons, List.length_nil, List.length_map, List.length_range, List.append_nil, List.nil_append, List.cons_append, List.contains_cons, List.contains_nil, List.getD_cons_zero, List.getD_cons_succ, Nat.reduceBEq, Nat.reduceAdd, Nat.zero_add, Nat.reduceLeDiff, Nat.reduceLT, Int.reduceLT, Int.reduceLE, Int.reduceNeg, Bool.or_false, Bool.false_or, Bool.or_true, Bool.true_or, Bool.and_true, Bool.true_and, Bool.and_self, Bool.not_true, Bool.not_false, Bool.false_eq_true, reduceCtorEq, if_true, if_false, ite_true, ite_false, true_and, and_true, and_self, decide_true, decide_false, eq_self, ne_eq, not_false_eq_true, not_true_eq_false, lim, ↓OW_cons, isWh] <;> try exact hk
  rename_i i
  unfold isPos at hk
  refine CB_i' (fun h => ?_) (fun h => ?_)
  · walk_at "wa"; simpa only [h, decide_true, Bool.true_and] using hk
  · walk_at "wa"; simpa only [h, decide_false, Bool.false_and] using hk
def PSrt (ds : List Slim.D) (g : S.G) (k : Slim.D → S.G → Prop) (X : KX S) : Prop := ∃ ms : List Int, ds = [.list (ms.map .int)] ∧ k (.bool (srtd ms)) g
theorem do_not_descend_sp (T : Tab S) (n : Nat) : SpF (S := S) ⟨false, 1, runF T false 1 n t_do_not_descend⟩ false 1 PSrt := by
  refine ⟨rfl, rfl, fun ds g k X p => ?_⟩
  obtain ⟨ms, rfl, hk⟩ := p
  refine ⟨rfl, ?_⟩
  rw [RW_runF]
  show OW T n t_do_not_descend [.dat (.list (ms.map .int))] g (retQ k X)
  unfold t_do_not_descend
  simp only [↓OW_c_asg, ↓OW_c_par, ↓OW_c_asgt, ↓OW_c_exp, ↓OW_c_app, ↓OW_c_ext, ↓OW_c_popt, ↓OW_c_pmx, ↓OW_c_set, ↓OW_c_ret, ↓OW_c_retn, ↓OW_c_brk, ↓OW_c_cnt, ↓OW_c_pass, ↓OW_nil, ↓OW_asg, ↓OW_par, ↓OW_asgt, ↓OW_exp, ↓OW_app, ↓OW_ext, ↓OW_popt, ↓OW_pmx, ↓OW_set, ↓OW_ret, ↓OW_retn, ↓OW_ife, ↓OW_brk, ↓OW_cnt, ↓OW_pass, ↓OW_for, ↓OW_whl, ↓SM_nil, ↓SM_var, ↓SM_idx, ↓W_var, ↓W_lit, ↓W_bin, ↓W_neg, ↓W_cmp, ↓W_chn, ↓W_and, ↓W_or, ↓Wb_one, ↓Wb_and, ↓Wb_or, ↓W_not, ↓W_ite, ↓W_tup, ↓W_lst, ↓W_idx, ↓W_slc, ↓W_rev, ↓W_blt, ↓W_isa, ↓Ws_nil, ↓Ws_cons, ↓Wo_nil, ↓Wo_cons, ↓W_call0, ↓W_call1, ↓W_callk, ↓W_comp, ↓Wi_rng1, ↓Wi_rng2, ↓Wi_zp, ↓Wi_cons, ↓Wi_enm, ↓hOP, ↓hCB, ↓hSEQ, ↓hIN, ↓hENM, ↓hNG, ↓hRV, ↓hOL, ↓hLS, ↓hCall, ↓hCW, ↓hFW, ↓hWW, ↓BK, ↓seqQ_nx, ↓seqQ_rt, ↓seqQ_bk, ↓seqQ_ct, ↓seqQ_ex, ↓loopQ_nx, ↓loopQ_ct, ↓loopQ_bk, ↓loopQ_rt, ↓loopQ_ex, ↓retQ_nx, ↓retQ_rt, ↓retQ_ex, ↓exQ_seq, ↓exQ_ret, IsDk_dk, OPh_some, OPh_none, OPh_map, OPh_ite, CBh_true, CBh_false, CBh_not, CBh_and, CBh_or, NGh_int, INh_int, RVh_l, RVh_t, SEQh_l, SEQh_t, ENMh_1, ENMh_2, OLh_own, LSh_l, CWh_nil, getD_0d, getD_0o, getD_s, aft_t, aft_f, aft_nd, frzA_nil, frzA_d, frzA_u, frzA_k, frzA_o, frzA_no, frzI_1, frzI_2, frzI_c, frzI_e, frzI_z, bind_nm, bind_tp, fitTs_nil, fitTs_nm, fitTs_tp, setTs_nil, setTs_nm, setTs_tp, wipe_nil, wipe_cons, noMut_non, noMut_b, noMut_i, noMut_s, noMut_l, noMut_t, noMut_fr, noMutA_nil, noMutA_cons, noMutA_app, noMutAll_ints, OP_mul, OP_fdiv, OP_mod, bop, add_i, add_l, add_t, add_s, sub_i, mul_tl, mul_ll, flat_one, pow_i, cop_lt, cop_le, cop_gt, cop_ge, cop_eq, cop_ne, cop_is, cop_isnt, isD_nn, isD_in, isD_tn, isD_ln, isD_fn, eqD_int, eqD_str, tru_b, tru_n, tru_i, tru_l, tru_t, isEmpty_map, List.isEmpty_nil, List.isEmpty_cons, enm_map, zip_map', blt, un, bi, len_l, len_t, abs_i, int_i, tup_l, tup_t, lst_l, lst_t, max2_i, min2_i, sum_li, sum_ti, idx_0t, idx_1t, idx_2t, idx_0l, idxl_last, isaD, isIntD, isBoolD, isTupD, isStrD, asgS, isNew, putS, svsOf, svOf, mutsOk, mutOk, inMut, rds, permL, Option.map_some, Option.map_none, List.map_cons, List.map_nil, List.getElem?_cons_zero, List.getElem?_cons_succ, List.set_cons_zero, List.set_cons_succ, List.length_cons, List.length_nil, List.length_map, List.length_range, List.append_nil, List.nil_append, List.cons_append, List.contains_cons, List.contains_nil, List.getD_cons_zero, List.getD_cons_succ, Nat.reduceBEq, Nat.reduceAdd, Nat.zero_add, Nat.reduceLeDiff, Nat.reduceLT, Int.reduceLT, Int.reduceLE, Int.reduceNeg, Bool.or_false, Bool.false_or, Bool.or_true, Bool.true_or, Bool.and_true, Bool.true_and, Bool.and_self, Bool.not_true, Bool.not_false, Bool.false_eq_true, reduceCtorEq, if_true, if_false, ite_true, ite_false, true_and, and_true, and_self, decide_true, decide_false, eq_self, ne_eq, not_false_eq_true, not_true_eq_false, lim, ↓OW_cons, sort_li, eqD_ints]
  exact hk
theorem is_weights_sp (T : Tab S) (n : Nat) (h1 : Sp T "is_from_one" false (PB isF1 any)) : SpF (S := S) ⟨false, 1, runF T false 2 n t_is_weights⟩ false 1 (PB isWts fewD) := by
  refine ⟨rfl, rfl, fun ds g k X p => ?_⟩
  obtain ⟨d, rfl, hf, hk⟩ := p
  refine ⟨rfl, ?_⟩
  rw [RW_runF]
  show OW T n t_is_weights [.dat d, .un] g (retQ k X)
  unfold t_is_weights
  walk_at "wa"
  cases d <;> walk_at "wa" <;> try exact hk
  rename_i xs
  have hl : xs.length < 100000 := hf
  unfold isWts at hk
  refine CB_i' (fun h => ?_) (fun h => ?_)
  · walk_at "wa"
    cases xs with
    | nil => exact hk
    | cons _ _ => simp at h; omega
  · walk_at "wa"
    refine ⟨hl, ?_⟩
    have e : xs = xs.map id := (List.map_id xs).symm
    rw [e]
    refine CWh_map (φ := fun d => .bool (isF1 d)) (fun a ha K' hK => ?_) ?_
    · unfold BD
      walk_at "wa"
      (refine ⟨Sp.has (by assumption), ?_⟩)
      exact h1.callH ⟨_, rfl, trivial, hK⟩
    · simp only [↓OW_c_asg, ↓OW_c_par, ↓OW_c_asgt, ↓OW_c_exp, ↓OW_c_app, ↓OW_c_ext, ↓OW_c_popt, ↓OW_c_pmx, ↓OW_c_set, ↓OW_c_ret, ↓OW_c_retn, ↓OW_c_brk, ↓OW_c_cnt, ↓OW_c_pass, ↓OW_nil, ↓OW_asg, ↓OW_par, ↓OW_asgt, ↓OW_exp, ↓OW_app, ↓OW_ext, ↓OW_popt, ↓OW_pmx, ↓OW_set, ↓OW_ret, ↓OW_retn, ↓OW_ife, ↓OW_brk, ↓OW_cnt, ↓OW_pass, ↓OW_for, ↓OW_whl, ↓SM_nil, ↓SM_var, ↓SM_idx, ↓W_var, ↓W_lit, ↓W_bin, ↓W_neg, ↓W_cmp, ↓W_chn, ↓W_and, ↓W_or, ↓Wb_one, ↓Wb_and, ↓Wb_or, ↓W_not, ↓W_ite, ↓W_tup, ↓W_lst, ↓W_idx, ↓W_slc, ↓W_rev, ↓W_blt, ↓W_isa, ↓Ws_nil, ↓Ws_cons, ↓Wo_nil, ↓Wo_cons, ↓W_call0, ↓W_call1, ↓W_callk, ↓W_comp, ↓Wi_rng1, ↓Wi_rng2, ↓Wi_zp, ↓Wi_cons, ↓Wi_enm, ↓hOP, ↓hCB, ↓hSEQ, ↓hIN, ↓hENM, ↓hNG, ↓hRV, ↓hOL, ↓hLS, ↓hCall, ↓hCW, ↓hFW, ↓hWW, ↓BK, ↓seqQ_nx, ↓seqQ_rt, ↓seqQ_bk, ↓seqQ_ct, ↓seqQ_ex, ↓loopQ_nx, ↓loopQ_ct, ↓loopQ_bk, ↓loopQ_rt, ↓loopQ_ex, ↓retQ_nx, ↓retQ_rt, ↓retQ_ex, ↓exQ_seq, ↓exQ_ret, IsDk_dk, OPh_some, OPh_none, OPh_map, OPh_ite, CBh_true, CBh_false, CBh_not, CBh_and, CBh_or, NGh_int, INh_int, RVh_l, RVh_t, SEQh_l, SEQh_t, ENMh_1, ENMh_2, OLh_own, LSh_l, CWh_nil, getD_0d, getD_0o, getD_s, aft_t, aft_f, aft_nd, frzA_nil, frzA_d, frzA_u, frzA_k, frzA_o, frzA_no, frzI_1, frzI_2, frzI_c, frzI_e, frzI_z, bind_nm, bind_tp, fitTs_nil, fitTs_nm, fitTs_tp, setTs_nil, setTs_nm, setTs_tp, wipe_nil, wipe_cons, noMut_non, noMut_b, noMut_i, noMut_s, noMut_l, noMut_t, noMut_fr, noMutA_nil, noMutA_cons, noMutA_app, noMutAll_ints, OP_mul, OP_fdiv, OP_mod, bop, add_i, add_l, add_t, add_s, sub_i, mul_tl, mul_ll, flat_one, pow_i, cop_lt, cop_le, cop_gt, cop_ge, cop_eq, cop_ne, cop_is, cop_isnt, isD_nn, isD_in, isD_tn, isD_ln, isD_fn, eqD_int, eqD_str, tru_b, tru_n, tru_i, tru_l, tru_t, isEmpty_map, List.isEmpty_nil, List.isEmpty_cons, enm_map, zip_map', blt, un, bi, len_l, len_t, abs_i, int_i, tup_l, tup_t, lst_l, lst_t, max2_i, min2_i, sum_li, sum_ti, idx_0t, idx_1t, idx_2t, idx_0l, idxl_last, isaD, isIntD, isBoolD, isTupD, isStrD, asgS, isNew, putS, svsOf, svOf, mutsOk, mutOk, inMut, rds, permL, Option.map_some, Option.map_none, List.map_cons, List.map_nil, List.getElem?_cons_zero, List.getElem?_cons_succ, List.set_cons_zero, List.set_cons_succ, List.length_cons, List.length_nil, List.length_map, List.length_range, List.append_nil, List.nil_append, List.cons_append, List.contains_cons, List.contains_nil, List.getD_cons_zero, List.getD_cons_succ, Nat.reduceBEq, Nat.reduceAdd, Nat.zero_add, Nat.reduceLeDiff, Nat.reduceLT, Int.reduceLT, Int.reduceLE, Int.reduceNeg, Bool.or_false, Bool.false_or, Bool.or_true, Bool.true_or, Bool.and_true, Bool.true_and, Bool.and_self, Bool.not_true, Bool.not_false, Bool.false_eq_true, reduceCtorEq, if_true, if_false, ite_true, ite_false, true_and, and_true, and_self, decide_true, decide_false, eq_self, ne_eq, not_false_eq_true, not_true_eq_false, lim, ↓OW_cons, ← List.map_map, List.map_id]
      have e2 : xs.map (fun d => PyData.bool (isF1 d)) = (xs.map isF1).map .bool := by rw [List.map_map]; rfl
      rw [e2]
      simp only [↓OW_c_asg, ↓OW_c_par, ↓OW_c_asgt, ↓OW_c_exp, ↓OW_c_app, ↓OW_c_ext, ↓OW_c_popt, ↓OW_c_pmx, ↓OW_c_set, ↓OW_c_ret, ↓OW_c_retn, ↓OW_c_brk, ↓OW_c_cnt, ↓OW_c_pass, ↓OW_nil, ↓OW_asg, ↓OW_par, ↓OW_asgt, ↓OW_exp, ↓OW_app, ↓OW_ext, ↓OW_popt, ↓OW_pmx, ↓OW_set, ↓OW_ret, ↓OW_retn, ↓OW_ife, ↓OW_brk, ↓OW_cnt, ↓OW_pass, ↓OW_for, ↓OW_whl, ↓SM_nil, ↓SM_var, ↓SM_idx, ↓W_var, ↓W_lit, ↓W_bin, ↓W_neg, ↓W_cmp, ↓W_chn, ↓W_and, ↓W_or, ↓Wb_one, ↓Wb_and, ↓Wb_or, ↓W_not, ↓W_ite, ↓W_tup, ↓W_lst, ↓W_idx, ↓W_slc, ↓W_rev, ↓W_blt, ↓W_isa, ↓Ws_nil, ↓Ws_cons, ↓Wo_nil, ↓Wo_cons, ↓W_call0, ↓W_call1, ↓W_callk, ↓W_comp, ↓Wi_rng1, ↓Wi_rng2, ↓Wi_zp, ↓Wi_cons, ↓Wi_enm, ↓hOP, ↓hCB, ↓hSEQ, ↓hIN, ↓hENM, ↓hNG, ↓hRV, ↓hOL, ↓hLS, ↓hCall, ↓hCW, ↓hFW, ↓hWW, ↓BK, ↓seqQ_nx, ↓seqQ_rt, ↓seqQ_bk, ↓seqQ_ct, ↓seqQ_ex, ↓loopQ_nx, ↓loopQ_ct, ↓loopQ_bk, ↓loopQ_rt, ↓loopQ_ex, ↓retQ_nx, ↓retQ_rt, ↓retQ_ex, ↓exQ_seq, ↓exQ_ret, IsDk_dk, OPh_some, OPh_none, OPh_map, OPh_ite, CBh_true, CBh_false, CBh_not, CBh_and, CBh_or, NGh_int, INh_int, RVh_l, RVh_t, SEQh_l, SEQh_t, ENMh_1, ENMh_2, OLh_own, LSh_l, CWh_nil, getD_0d, getD_0o, getD_s, aft_t, aft_f, aft_nd, frzA_nil, frzA_d, frzA_u, frzA_k, frzA_o, frzA_no, frzI_1, frzI_2, frzI_c, frzI_e, frzI_z, bind_nm, bind_tp, fitTs_nil, fitTs_nm, fitTs_tp, setTs_nil, setTs_nm, setTs_tp, wipe_nil, wipe_cons, noMut_non, noMut_b, noMut_i, noMut_s, noMut_l, noMut_t, noMut_fr, noMutA_nil, noMutA_cons, noMutA_app, noMutAll_ints, OP_mul, OP_fdiv, OP_mod, bop, add_i, add_l, add_t, add_s, sub_i, mul_tl, mul_ll, flat_one, pow_i, cop_lt, cop_le, cop_gt, cop_ge, cop_eq, cop_ne, cop_is, cop_isnt, isD_nn, isD_in, isD_tn, isD_ln, isD_fn, eqD_int, eqD_str, tru_b, tru_n, tru_i, tru_l, tru_t, isEmpty_map, List.isEmpty_nil, List.isEmpty_cons, enm_map, zip_map', blt, un, bi, len_l, len_t, abs_i, int_i, tup_l, tup_t, lst_l, lst_t, max2_i, min2_i, sum_li, sum_ti, idx_0t, idx_1t, idx_2t, idx_0l, idxl_last, isaD, isIntD, isBoolD, isTupD, isStrD, asgS, isNew, putS, svsOf, svOf, mutsOk, mutOk, inMut, rds, permL, Option.map_some, Option.map_none, List.map_cons, List.map_nil, List.getElem?_cons_zero, List.getElem?_cons_succ, List.set_cons_zero, List.set_cons_succ, List.length_cons, List.length_nil, List.length_map, List.length_range, List.append_nil, List.nil_append, List.cons_append, List.contains_cons, List.contains_nil, List.getD_cons_zero, List.getD_cons_succ, Nat.reduceBEq, Nat.reduceAdd, Nat.zero_add, Nat.reduceLeDiff, Nat.reduceLT, Int.reduceLT, Int.reduceLE, Int.reduceNeg, Bool.or_false, Bool.false_or, Bool.or_true, Bool.true_or, Bool.and_true, Bool.true_and, Bool.and_self, Bool.not_true, Bool.not_false, Bool.false_eq_true, reduceCtorEq, if_true, if_false, ite_true, ite_false, true_and, and_true, and_self, decide_true, decide_false, eq_self, ne_eq, not_false_eq_true, not_true_eq_false, lim, ↓OW_cons, all_lb, List.all_map]
      cases xs with
      | nil => simp at h
      | cons _ _ => exact hk
theorem is_packet_of_some_sp (T : Tab S) (n : Nat) (h1 : Sp T "is_whole" false (PB isWh any)) (h2 : Sp T "is_flow_of_some" false (PB isF0 any)) (h3 : Sp T "is_from_one" false (PB isF1 any)) : SpF (S := S) ⟨false, 1, runF T false 4 n t_is_packet_of_some⟩ false 1 (PB isPkS any) := by
  refine ⟨rfl, rfl, fun ds g k X p => ?_⟩
  obtain ⟨d, rfl, h0, hk⟩ := p
  clear h0
  refine ⟨rfl, ?_⟩
  rw [RW_runF]
  show OW T n t_is_packet_of_some [.dat d, .un, .un, .un] g (retQ k X)
  unfold t_is_packet_of_some
  walk_at "wa"
  cases d <;> walk_at "wa" <;> try exact hk
  rename_i xs
  match xs with
  | [] => refine CB_f' (by simp) ?_; walk_at "wa"; exact hk
  | [_] => refine CB_f' (by simp) ?_; walk_at "wa"; exact hk
  | [_, _] => refine CB_f' (by simp) ?_; walk_at "wa"; exact hk
  | _ :: _ :: _ :: _ :: r => refine CB_f' (by simp; omega) ?_; walk_at "wa"; exact hk
  | [m, f, l] =>
    refine CB_t' (by simp) ?_
    walk_at "wa"
    (refine ⟨Sp.has (by assumption), ?_⟩)
    refine h1.callH ⟨_, rfl, trivial, ?_⟩
    walk_at "wa"
    cases m <;> simp only [↓OW_c_asg, ↓OW_c_par, ↓OW_c_asgt, ↓OW_c_exp, ↓OW_c_app, ↓OW_c_ext, ↓OW_c_popt, ↓OW_c_pmx, ↓OW_c_set, ↓OW_c_ret, ↓OW_c_retn, ↓OW_c_brk, ↓OW_c_cnt, ↓OW_c_pass, ↓OW_nil, ↓OW_asg, ↓OW_par, ↓OW_asgt, ↓OW_exp, ↓OW_app, ↓OW_ext, ↓OW_popt, ↓OW_pmx, ↓OW_set, ↓OW_ret, ↓OW_retn, ↓OW_ife, ↓OW_brk, ↓OW_cnt, ↓OW_pass, ↓OW_for, ↓OW_whl, ↓SM_nil, ↓SM_var, ↓SM_idx, ↓W_var, ↓W_lit, ↓W_bin, ↓W_neg, ↓W_cmp, ↓W_chn, ↓W_and, ↓W_or, ↓Wb_one, ↓Wb_and, ↓Wb_or, ↓W_not, ↓W_ite, ↓W_tup, ↓W_lst, ↓W_idx, ↓W_slc, ↓W_rev, ↓W_blt, ↓W_isa, ↓Ws_nil, ↓Ws_cons, ↓Wo_nil, ↓Wo_cons, ↓W_call0, ↓W_call1, ↓W_callk, ↓W_comp, ↓Wi_rng1, ↓Wi_rng2, ↓Wi_zp, ↓Wi_cons, ↓Wi_enm, ↓hOP, ↓hCB, ↓hSEQ, ↓hIN, ↓hENM, ↓hNG, ↓hRV, ↓hOL, ↓hLS, ↓hCall, ↓hCW, ↓hFW, ↓hWW, ↓BK, ↓seqQ_nx, ↓seqQ_rt, ↓seqQ_bk, ↓seqQ_ct, ↓seqQ_ex, ↓loopQ_nx, ↓loopQ_ct, ↓loopQ_bk, ↓loopQ_rt, ↓loopQ_ex, ↓retQ_nx, ↓retQ_rt, ↓retQ_ex, ↓exQ_seq, ↓exQ_ret, IsDk_dk, OPh_some, OPh_none, OPh_map, OPh_ite, CBh_true, CBh_false, CBh_not, CBh_and, CBh_or, NGh_int, INh_int, RVh_l, RVh_t, SEQh_l, SEQh_t, ENMh_1, ENMh_2, OLh_own, LSh_l, CWh_nil, getD_0d, getD_0o, getD_s, aft_t, aft_f, aft_nd, frzA_nil, frzA_d, frzA_u, frzA_k, frzA_o, frzA_no, frzI_1, frzI_2, frzI_c, frzI_e, frzI_z, bind_nm, bind_tp, fitTs_nil, fitTs_nm, fitTs_tp, setTs_nil, setTs_nm, setTs_tp, wipe_nil, wipe_cons, noMut_non, noMut_b, noMut_i, noMut_s, noMut_l, noMut_t, noMut_fr, noMutA_nil, noMutA_cons, noMutA_app, noMutAll_ints, OP_mul, OP_fdiv, OP_mod, bop, add_i, add_l, add_t, add_s, sub_i, mul_tl, mul_ll, flat_one, pow_i, cop_lt, cop_le, cop_gt, cop_ge, cop_eq, cop_ne, cop_is, cop_isnt, isD_nn, isD_in, isD_tn, isD_ln, isD_fn, eqD_int, eqD_str, tru_b, tru_n, tru_i, tru_l, tru_t, isEmpty_map, List.isEmpty_nil, List.isEmpty_cons, enm_map, zip_map', blt, un, bi, len_l, len_t, abs_i, int_i, tup_l, tup_t, lst_l, lst_t, max2_i, min2_i, sum_li, sum_ti, idx_0t, idx_1t, idx_2t, idx_0l, idxl_last, isaD, isIntD, isBoolD, isTupD, isStrD, asgS, isNew, putS, svsOf, svOf, mutsOk, mutOk, inMut, rds, permL, Option.map_some, Option.map_none, List.map_cons, List.map_nil, List.getElem?_cons_zero, List.getElem?_cons_succ, List.set_cons_zero, List.set_cons_succ, List.length_cons, List.length_nil, List.length_map, List.length_range, List.append_nil, List.nil_append, List.cons_append, List.contains_cons, List.contains_nil, List.getD_cons_zero, List.getD_cons_succ, Nat.reduceBEq, Nat.reduceAdd, Nat.zero_add, Nat.reduceLeDiff, Nat.reduceLT, Int.reduceLT, Int.reduceLE, Int.reduceNeg, Bool.or_false, Bool.false_or, Bool.or_true, Bool.true_or, Bool.and_true, Bool.true_and, Bool.and_self, Bool.not_true, Bool.not_false, Bool.false_eq_true, reduceCtorEq, if_true, if_false, ite_true, ite_false, true_and, and_true, and_self, decide_true, decide_false, eq_self, ne_eq, not_false_eq_true, not_true_eq_false, lim, ↓OW_cons, isWh] <;> try exact hk
    rename_i m
    refine CB_i' (fun h => ?_) (fun h => ?_)
    · walk_at "wa"
      (refine ⟨Sp.has (by assumption), ?_⟩)
      refine h2.callH ⟨_, rfl, trivial, ?_⟩
      walk_at "wa"
      refine CB_b' (fun h' => ?_) (fun h' => ?_)
      · walk_at "wa"
        (refine ⟨Sp.has (by assumption), ?_⟩)
        refine h3.callH ⟨_, rfl, trivial, ?_⟩
        walk_at "wa"
        simpa only [isPkS3, isF0_i, h, h', decide_true, Bool.true_and] using hk
      · walk_at "wa"
        simpa only [isPkS3, isF0_i, h, h', decide_true, Bool.true_and, Bool.false_and] using hk
    · walk_at "wa"
      simpa only [isPkS3, isF0_i, h, decide_false, Bool.false_and] using hk

/-- a check that is passed -/
def PC (fn : Slim.D → Bool) (ok : Slim.D → Prop) (ds : List Slim.D) (g : S.G) (k : Slim.D → S.G → Prop) (X : KX S) : Prop := ∃ d, ds = [d] ∧ ok d ∧ fn d = true ∧ k .none g
theorem mom_map {xs : List Slim.D} (h : xs.all isPkS = true) : xs.map (fun d => PyData.int (momD d)) = (xs.map momD).map PyData.int := by rw [List.map_map]; rfl
theorem is_arrivals_for_some_sp (T : Tab S) (n : Nat) (h1 : Sp T "is_packet_of_some" false (PB isPkS any)) (h2 : Sp T "do_not_descend" false PSrt) : SpF (S := S) ⟨false, 1, runF T false 4 n t_is_arrivals_for_some⟩ false 1 (PB isArrS fewD) := by
  refine ⟨rfl, rfl, fun ds g k X p => ?_⟩
  obtain ⟨d, rfl, hf, hk⟩ := p
  refine ⟨rfl, ?_⟩
  rw [RW_runF]
  show OW T n t_is_arrivals_for_some [.dat d, .un, .un, .un] g (retQ k X)
  unfold t_is_arrivals_for_some
  walk_at "wa"
  cases d <;> walk_at "wa" <;> try exact hk
  rename_i xs
  have hl : xs.length < 100000 := hf
  refine ⟨hl, ?_⟩
  have e : xs = xs.map id := (List.map_id xs).symm
  rw [e]
  refine CWh_map (φ := fun d => .bool (isPkS d)) (fun a ha K' hK => ?_) ?_
  · unfold BD
    walk_at "wa"
    (refine ⟨Sp.has (by assumption), ?_⟩)
    exact h1.callH ⟨_, rfl, trivial, hK⟩
  have e2 : xs.map (fun d => PyData.bool (isPkS d)) = (xs.map isPkS).map .bool := by rw [List.map_map]; rfl
  rw [List.map_id, e2]
  simp only [↓OW_c_asg, ↓OW_c_par, ↓OW_c_asgt, ↓OW_c_exp, ↓OW_c_app, ↓OW_c_ext, ↓OW_c_popt, ↓OW_c_pmx, ↓OW_c_set, ↓OW_c_ret, ↓OW_c_retn, ↓OW_c_brk, ↓OW_c_cnt, ↓OW_c_pass, ↓OW_nil, ↓OW_asg, ↓OW_par, ↓OW_asgt, ↓OW_exp, ↓OW_app, ↓OW_ext, ↓OW_popt, ↓OW_pmx, ↓OW_set, ↓OW_ret, ↓OW_retn, ↓OW_ife, ↓OW_brk, ↓OW_cnt, ↓OW_pass, ↓OW_for, ↓OW_whl, ↓SM_nil, ↓SM_var, ↓SM_idx, ↓W_var, ↓W_lit, ↓W_bin, ↓W_neg, ↓W_cmp, ↓W_chn, ↓W_and, ↓W_or, ↓Wb_one, ↓Wb_and, ↓Wb_or, ↓W_not, ↓W_ite, ↓W_tup, ↓W_lst, ↓W_idx, ↓W_slc, ↓W_rev, ↓W_blt, ↓W_isa, ↓Ws_nil, ↓Ws_cons, ↓Wo_nil, ↓Wo_cons, ↓W_call0, ↓W_call1, ↓W_callk, ↓W_comp, ↓Wi_rng1, ↓Wi_rng2, ↓Wi_zp, ↓Wi_cons, ↓Wi_enm, ↓hOP, ↓hCB, ↓hSEQ, ↓hIN, ↓hENM, ↓hNG, ↓hRV, ↓hOL, ↓hLS, ↓hCall, ↓hCW, ↓hFW, ↓hWW, ↓BK, ↓seqQ_nx, ↓seqQ_rt, ↓seqQ_bk, ↓seqQ_ct, ↓seqQ_ex, ↓loopQ_nx, ↓loopQ_ct, ↓loopQ_bk, ↓loopQ_rt, ↓loopQ_ex, ↓retQ_nx, ↓retQ_rt, ↓retQ_ex, ↓exQ_seq, ↓exQ_ret, IsDk_dk, OPh_some, OPh_none, OPh_map, OPh_ite, CBh_true, CBh_false, CBh_not, CBh_and, CBh_or, NGh_int, INh_int, RVh_l, RVh_t, SEQh_l, SEQh_t, ENMh_1, ENMh_2, OLh_own, LSh_l, CWh_nil, getD_0d, getD_0o, getD_s, aft_t, aft_f, aft_nd, frzA_nil, frzA_d, frzA_u, frzA_k, frzA_o, frzA_no, frzI_1, frzI_2, frzI_c, frzI_e, frzI_z, bind_nm, bind_tp, fitTs_nil, fitTs_nm, fitTs_tp, setTs_nil, setTs_nm, setTs_tp, wipe_nil, wipe_cons, noMut_non, noMut_b, noMut_i, noMut_s, noMut_l, noMut_t, noMut_fr, noMutA_nil, noMutA_cons, noMutA_app, noMutAll_ints, OP_mul, OP_fdiv, OP_mod, bop, add_i, add_l, add_t, add_s, sub_i, mul_tl, mul_ll, flat_one, pow_i, cop_lt, cop_le, cop_gt, cop_ge, cop_eq, cop_ne, cop_is, cop_isnt, isD_nn, isD_in, isD_tn, isD_ln, isD_fn, eqD_int, eqD_str, tru_b, tru_n, tru_i, tru_l, tru_t, isEmpty_map, List.isEmpty_nil, List.isEmpty_cons, enm_map, zip_map', blt, un, bi, len_l, len_t, abs_i, int_i, tup_l, tup_t, lst_l, lst_t, max2_i, min2_i, sum_li, sum_ti, idx_0t, idx_1t, idx_2t, idx_0l, idxl_last, isaD, isIntD, isBoolD, isTupD, isStrD, asgS, isNew, putS, svsOf, svOf, mutsOk, mutOk, inMut, rds, permL, Option.map_some, Option.map_none, List.map_cons, List.map_nil, List.getElem?_cons_zero, List.getElem?_cons_succ, List.set_cons_zero, List.set_cons_succ, List.length_cons, List.length_nil, List.length_map, List.length_range, List.append_nil, List.nil_append, List.cons_append, List.contains_cons, List.contains_nil, List.getD_cons_zero, List.getD_cons_succ, Nat.reduceBEq, Nat.reduceAdd, Nat.zero_add, Nat.reduceLeDiff, Nat.reduceLT, Int.reduceLT, Int.reduceLE, Int.reduceNeg, Bool.or_false, Bool.false_or, Bool.or_true, Bool.true_or, Bool.and_true, Bool.true_and, Bool.and_self, Bool.not_true, Bool.not_false, Bool.false_eq_true, reduceCtorEq, if_true, if_false, ite_true, ite_false, true_and, and_true, and_self, decide_true, decide_false, eq_self, ne_eq, not_false_eq_true, not_true_eq_false, lim, ↓OW_cons, all_lb, List.all_map]
  have e3 : xs.all (id ∘ isPkS) = xs.all isPkS := rfl
  rw [e3]
  unfold isArrS at hk
  refine CB_b' (fun h => ?_) (fun h => ?_)
  · walk_at "wa"
    (refine ⟨Sp.has (by assumption), ?_⟩)
    refine ⟨hl, ?_⟩
    rw [e]
    refine CWh_map (φ := fun d => .int (momD d)) (fun a ha K' hK => ?_) ?_
    · obtain ⟨m, f, l, rfl, _⟩ := isPkS_form (List.all_eq_true.mp h a ha)
      unfold BD
      simp only [↓OW_c_asg, ↓OW_c_par, ↓OW_c_asgt, ↓OW_c_exp, ↓OW_c_app, ↓OW_c_ext, ↓OW_c_popt, ↓OW_c_pmx, ↓OW_c_set, ↓OW_c_ret, ↓OW_c_retn, ↓OW_c_brk, ↓OW_c_cnt, ↓OW_c_pass, ↓OW_nil, ↓OW_asg, ↓OW_par, ↓OW_asgt, ↓OW_exp, ↓OW_app, ↓OW_ext, ↓OW_popt, ↓OW_pmx, ↓OW_set, ↓OW_ret, ↓OW_retn, ↓OW_ife, ↓OW_brk, ↓OW_cnt, ↓OW_pass, ↓OW_for, ↓OW_whl, ↓SM_nil, ↓SM_var, ↓SM_idx, ↓W_var, ↓W_lit, ↓W_bin, ↓W_neg, ↓W_cmp, ↓W_chn, ↓W_and, ↓W_or, ↓Wb_one, ↓Wb_and, ↓Wb_or, ↓W_not, ↓W_ite, ↓W_tup, ↓W_lst, ↓W_idx, ↓W_slc, ↓W_rev, ↓W_blt, ↓W_isa, ↓Ws_nil, ↓Ws_cons, ↓Wo_nil, ↓Wo_cons, ↓W_call0, ↓W_call1, ↓W_callk, ↓W_comp, ↓Wi_rng1, ↓Wi_rng2, ↓Wi_zp, ↓Wi_cons, ↓Wi_enm, ↓hOP, ↓hCB, ↓hSEQ, ↓hIN, ↓hENM, ↓hNG, ↓hRV, ↓hOL, ↓hLS, ↓hCall, ↓hCW, ↓hFW, ↓hWW, ↓BK, ↓seqQ_nx, ↓seqQ_rt, ↓seqQ_bk, ↓seqQ_ct, ↓seqQ_ex, ↓loopQ_nx, ↓loopQ_ct, ↓loopQ_bk, ↓loopQ_rt, ↓loopQ_ex, ↓retQ_nx, ↓retQ_rt, ↓retQ_ex, ↓exQ_seq, ↓exQ_ret, IsDk_dk, OPh_some, OPh_none, OPh_map, OPh_ite, CBh_true, CBh_false, CBh_not, CBh_and, CBh_or, NGh_int, INh_int, RVh_l, RVh_t, SEQh_l, SEQh_t, ENMh_1, ENMh_2, OLh_own, LSh_l, CWh_nil, getD_0d, getD_0o, getD_s, aft_t, aft_f, aft_nd, frzA_nil, frzA_d, frzA_u, frzA_k, frzA_o, frzA_no, frzI_1, frzI_2, frzI_c, frzI_e, frzI_z, bind_nm, bind_tp, fitTs_nil, fitTs_nm, fitTs_tp, setTs_nil, setTs_nm, setTs_tp, wipe_nil, wipe_cons, noMut_non, noMut_b, noMut_i, noMut_s, noMut_l, noMut_t, noMut_fr, noMutA_nil, noMutA_cons, noMutA_app, noMutAll_ints, OP_mul, OP_fdiv, OP_mod, bop, add_i, add_l, add_t, add_s, sub_i, mul_tl, mul_ll, flat_one, pow_i, cop_lt, cop_le, cop_gt, cop_ge, cop_eq, cop_ne, cop_is, cop_isnt, isD_nn, isD_in, isD_tn, isD_ln, isD_fn, eqD_int, eqD_str, tru_b, tru_n, tru_i, tru_l, tru_t, isEmpty_map, List.isEmpty_nil, List.isEmpty_cons, enm_map, zip_map', blt, un, bi, len_l, len_t, abs_i, int_i, tup_l, tup_t, lst_l, lst_t, max2_i, min2_i, sum_li, sum_ti, idx_0t, idx_1t, idx_2t, idx_0l, idxl_last, isaD, isIntD, isBoolD, isTupD, isStrD, asgS, isNew, putS, svsOf, svOf, mutsOk, mutOk, inMut, rds, permL, Option.map_some, Option.map_none, List.map_cons, List.map_nil, List.getElem?_cons_zero, List.getElem?_cons_succ, List.set_cons_zero, List.set_cons_succ, List.length_cons, List.length_nil, List.length_map, List.length_range, List.append_nil, List.nil_append, List.cons_append, List.contains_cons, List.contains_nil, List.getD_cons_zero, List.getD_cons_succ, Nat.reduceBEq, Nat.reduceAdd, Nat.zero_add, Nat.reduceLeDiff, Nat.reduceLT, Int.reduceLT, Int.reduceLE, Int.reduceNeg, Bool.or_false, Bool.false_or, Bool.or_true, Bool.true_or, Bool.and_true, Bool.true_and, Bool.and_self, Bool.not_true, Bool.not_false, Bool.false_eq_true, reduceCtorEq, if_true, if_false, ite_true, ite_false, true_and, and_true, and_self, decide_true, decide_false, eq_self, ne_eq, not_false_eq_true, not_true_eq_false, lim, ↓OW_cons, id]
      exact hK
    · rw [mom_map h]
      walk_at "wa"
      refine h2.callH ⟨_, rfl, ?_⟩
      walk_at "wa"
      simpa only [h, Bool.true_and] using hk
  · walk_at "wa"
    simpa only [h, Bool.false_and] using hk
theorem check_weights_sp (T : Tab S) (n : Nat) (h1 : Sp T "is_weights" false (PB isWts fewD)) : SpF (S := S) ⟨false, 1, runF T false 1 n t_check_weights⟩ false 1 (PC isWts fewD) := by
  refine ⟨rfl, rfl, fun ds g k X p => ?_⟩
  obtain ⟨d, rfl, hf, ht, hk⟩ := p
  refine ⟨rfl, ?_⟩
  rw [RW_runF]
  show OW T n t_check_weights [.dat d] g (retQ k X)
  unfold t_check_weights
  walk_at "wa"
  (refine ⟨Sp.has (by assumption), ?_⟩)
  refine h1.callH ⟨_, rfl, hf, ?_⟩
  simp only [↓OW_c_asg, ↓OW_c_par, ↓OW_c_asgt, ↓OW_c_exp, ↓OW_c_app, ↓OW_c_ext, ↓OW_c_popt, ↓OW_c_pmx, ↓OW_c_set, ↓OW_c_ret, ↓OW_c_retn, ↓OW_c_brk, ↓OW_c_cnt, ↓OW_c_pass, ↓OW_nil, ↓OW_asg, ↓OW_par, ↓OW_asgt, ↓OW_exp, ↓OW_app, ↓OW_ext, ↓OW_popt, ↓OW_pmx, ↓OW_set, ↓OW_ret, ↓OW_retn, ↓OW_ife, ↓OW_brk, ↓OW_cnt, ↓OW_pass, ↓OW_for, ↓OW_whl, ↓SM_nil, ↓SM_var, ↓SM_idx, ↓W_var, ↓W_lit, ↓W_bin, ↓W_neg, ↓W_cmp, ↓W_chn, ↓W_and, ↓W_or, ↓Wb_one, ↓Wb_and, ↓Wb_or, ↓W_not, ↓W_ite, ↓W_tup, ↓W_lst, ↓W_idx, ↓W_slc, ↓W_rev, ↓W_blt, ↓W_isa, ↓Ws_nil, ↓Ws_cons, ↓Wo_nil, ↓Wo_cons, ↓W_call0, ↓W_call1, ↓W_callk, ↓W_comp, ↓Wi_rng1, ↓Wi_rng2, ↓Wi_zp, ↓Wi_cons, ↓Wi_enm, ↓hOP, ↓hCB, ↓hSEQ, ↓hIN, ↓hENM, ↓hNG, ↓hRV, ↓hOL, ↓hLS, ↓hCall, ↓hCW, ↓hFW, ↓hWW, ↓BK, ↓seqQ_nx, ↓seqQ_rt, ↓seqQ_bk, ↓seqQ_ct, ↓seqQ_ex, ↓loopQ_nx, ↓loopQ_ct, ↓loopQ_bk, ↓loopQ_rt, ↓loopQ_ex, ↓retQ_nx, ↓retQ_rt, ↓retQ_ex, ↓exQ_seq, ↓exQ_ret, IsDk_dk, OPh_some, OPh_none, OPh_map, OPh_ite, CBh_true, CBh_false, CBh_not, CBh_and, CBh_or, NGh_int, INh_int, RVh_l, RVh_t, SEQh_l, SEQh_t, ENMh_1, ENMh_2, OLh_own, LSh_l, CWh_nil, getD_0d, getD_0o, getD_s, aft_t, aft_f, aft_nd, frzA_nil, frzA_d, frzA_u, frzA_k, frzA_o, frzA_no, frzI_1, frzI_2, frzI_c, frzI_e, frzI_z, bind_nm, bind_tp, fitTs_nil, fitTs_nm, fitTs_tp, setTs_nil, setTs_nm, setTs_tp, wipe_nil, wipe_cons, noMut_non, noMut_b, noMut_i, noMut_s, noMut_l, noMut_t, noMut_fr, noMutA_nil, noMutA_cons, noMutA_app, noMutAll_ints, OP_mul, OP_fdiv, OP_mod, bop, add_i, add_l, add_t, add_s, sub_i, mul_tl, mul_ll, flat_one, pow_i, cop_lt, cop_le, cop_gt, cop_ge, cop_eq, cop_ne, cop_is, cop_isnt, isD_nn, isD_in, isD_tn, isD_ln, isD_fn, eqD_int, eqD_str, tru_b, tru_n, tru_i, tru_l, tru_t, isEmpty_map, List.isEmpty_nil, List.isEmpty_cons, enm_map, zip_map', blt, un, bi, len_l, len_t, abs_i, int_i, tup_l, tup_t, lst_l, lst_t, max2_i, min2_i, sum_li, sum_ti, idx_0t, idx_1t, idx_2t, idx_0l, idxl_last, isaD, isIntD, isBoolD, isTupD, isStrD, asgS, isNew, putS, svsOf, svOf, mutsOk, mutOk, inMut, rds, permL, Option.map_some, Option.map_none, List.map_cons, List.map_nil, List.getElem?_cons_zero, List.getElem?_cons_succ, List.set_cons_zero, List.set_cons_succ, List.length_cons, List.length_nil, List.length_map, List.length_range, List.append_nil, List.nil_append, List.cons_append, List.contains_cons, List.contains_nil, List.getD_cons_zero, List.getD_cons_succ, Nat.reduceBEq, Nat.reduceAdd, Nat.zero_add, Nat.reduceLeDiff, Nat.reduceLT, Int.reduceLT, Int.reduceLE, Int.reduceNeg, Bool.or_false, Bool.false_or, Bool.or_true, Bool.true_or, Bool.and_true, Bool.true_and, Bool.and_self, Bool.not_true, Bool.not_false, Bool.false_eq_true, reduceCtorEq, if_true, if_false, ite_true, ite_false, true_and, and_true, and_self, decide_true, decide_false, eq_self, ne_eq, not_false_eq_true, not_true_eq_false, lim, ↓OW_cons, ht]
  exact hk
def PFlow (ds : List Slim.D) (g : S.G) (k : Slim.D → S.G → Prop) (X : KX S) : Prop := ∃ (ws : List Slim.D) (d : Slim.D), ds = [.tuple ws, d] ∧ k (.bool (isPos ws.length d)) g
theorem is_flow_sp (T : Tab S) (n : Nat) (h1 : Sp T "is_position" false PPos) : SpF (S := S) ⟨false, 2, runF T false 2 n t_is_flow⟩ false 2 PFlow := by
  refine ⟨rfl, rfl, fun ds g k X p => ?_⟩
  obtain ⟨ws, d, rfl, hk⟩ := p
  refine ⟨rfl, ?_⟩
  rw [RW_runF]
  show OW T n t_is_flow [.dat (.tuple ws), .dat d] g (retQ k X)
  unfold t_is_flow
  walk_at "wa"
  (refine ⟨Sp.has (by assumption), ?_⟩)
  exact h1.callH ⟨_, _, rfl, hk⟩
def PArr (ds : List Slim.D) (g : S.G) (k : Slim.D → S.G → Prop) (X : KX S) : Prop := ∃ (ws : List Slim.D) (d : Slim.D), ds = [.tuple ws, d] ∧ ws.length < lim ∧ isWts (.tuple ws) = true ∧ fewD d ∧ k (.bool (isArr ws.length d)) g
theorem is_arrivals_sp (T : Tab S) (n : Nat) (h1 : Sp T "check_weights" false (PC isWts fewD)) (h2 : Sp T "is_arrivals_for_some" false (PB isArrS fewD)) (h3 : Sp T "is_flow" false PFlow) : SpF (S := S) ⟨false, 2, runF T false 4 n t_is_arrivals⟩ false 2 PArr := by
  refine ⟨rfl, rfl, fun ds g k X p => ?_⟩
  obtain ⟨ws, d, rfl, hw, ht, hf, hk⟩ := p
  refine ⟨rfl, ?_⟩
  rw [RW_runF]
  show OW T n t_is_arrivals [.dat (.tuple ws), .dat d, .un, .un] g (retQ k X)
  unfold t_is_arrivals
  walk_at "wa"
  (refine ⟨Sp.has (by assumption), ?_⟩)
  refine h1.callH ⟨_, rfl, hw, ht, ?_⟩
  walk_at "wa"
  (refine ⟨Sp.has (by assumption), ?_⟩)
  refine h2.callH ⟨_, rfl, hf, ?_⟩
  walk_at "wa"
  refine CB_b' (fun h => ?_) (fun h => ?_)
  · have hform : ∃ xs, d = .tuple xs ∧ (xs.all isPkS = true) ∧ srtd (xs.map momD) = true := by
      cases d <;> simp only [isArrS] at h <;> try contradiction
      rw [Bool.and_eq_true] at h
      exact ⟨_, rfl, h.1, h.2⟩
    obtain ⟨xs, rfl, ha, hs⟩ := hform
    walk_at "wa"
    refine ⟨hf, ?_⟩
    have e : xs = xs.map id := (List.map_id xs).symm
    rw [e]
    refine CWh_map (φ := fun d => .bool (isPos ws.length (flowD d))) (fun a hx K' hK => ?_) ?_
    · obtain ⟨m, f, l, rfl, _⟩ := isPkS_form (List.all_eq_true.mp ha a hx)
      unfold BD
      simp only [↓OW_c_asg, ↓OW_c_par, ↓OW_c_asgt, ↓OW_c_exp, ↓OW_c_app, ↓OW_c_ext, ↓OW_c_popt, ↓OW_c_pmx, ↓OW_c_set, ↓OW_c_ret, ↓OW_c_retn, ↓OW_c_brk, ↓OW_c_cnt, ↓OW_c_pass, ↓OW_nil, ↓OW_asg, ↓OW_par, ↓OW_asgt, ↓OW_exp, ↓OW_app, ↓OW_ext, ↓OW_popt, ↓OW_pmx, ↓OW_set, ↓OW_ret, ↓OW_retn, ↓OW_ife, ↓OW_brk, ↓OW_cnt, ↓OW_pass, ↓OW_for, ↓OW_whl, ↓SM_nil, ↓SM_var, ↓SM_idx, ↓W_var, ↓W_lit, ↓W_bin, ↓W_neg, ↓W_cmp, ↓W_chn, ↓W_and, ↓W_or, ↓Wb_one, ↓Wb_and, ↓Wb_or, ↓W_not, ↓W_ite, ↓W_tup, ↓W_lst, ↓W_idx, ↓W_slc, ↓W_rev, ↓W_blt, ↓W_isa, ↓Ws_nil, ↓Ws_cons, ↓Wo_nil, ↓Wo_cons, ↓W_call0, ↓W_call1, ↓W_callk, ↓W_comp, ↓Wi_rng1, ↓Wi_rng2, ↓Wi_zp, ↓Wi_cons, ↓Wi_enm, ↓hOP, ↓hCB, ↓hSEQ, ↓hIN, ↓hENM, ↓hNG, ↓hRV, ↓hOL, ↓hLS, ↓hCall, ↓hCW, ↓hFW, ↓hWW, ↓BK, ↓seqQ_nx, ↓seqQ_rt, ↓seqQ_bk, ↓seqQ_ct, ↓seqQ_ex, ↓loopQ_nx, ↓loopQ_ct, ↓loopQ_bk, ↓loopQ_rt, ↓loopQ_ex, ↓retQ_nx, ↓retQ_rt, ↓retQ_ex, ↓exQ_seq, ↓exQ_ret, IsDk_dk, OPh_some, OPh_none, OPh_map, OPh_ite, CBh_true, CBh_false, CBh_not, CBh_and, CBh_or, NGh_int, INh_int, RVh_l, RVh_t, SEQh_l, SEQh_t, ENMh_1, ENMh_2, OLh_own, LSh_l, CWh_nil, getD_0d, getD_0o, getD_s, aft_t, aft_f, aft_nd, frzA_nil, frzA_d, frzA_u, frzA_k, frzA_o, frzA_no, frzI_1, frzI_2, frzI_c, frzI_e, frzI_z, bind_nm, bind_tp, fitTs_nil, fitTs_nm, fitTs_tp, setTs_nil, setTs_nm, setTs_tp, wipe_nil, wipe_cons, noMut_non, noMut_b, noMut_i, noMut_s, noMut_l, noMut_t, noMut_fr, noMutA_nil, noMutA_cons, noMutA_app, noMutAll_ints, OP_mul, OP_fdiv, OP_mod, bop, add_i, add_l, add_t, add_s, sub_i, mul_tl, mul_ll, flat_one, pow_i, cop_lt, cop_le, cop_gt, cop_ge, cop_eq, cop_ne, cop_is, cop_isnt, isD_nn, isD_in, isD_tn, isD_ln, isD_fn, eqD_int, eqD_str, tru_b, tru_n, tru_i, tru_l, tru_t, isEmpty_map, List.isEmpty_nil, List.isEmpty_cons, enm_map, zip_map', blt, un, bi, len_l, len_t, abs_i, int_i, tup_l, tup_t, lst_l, lst_t, max2_i, min2_i, sum_li, sum_ti, idx_0t, idx_1t, idx_2t, idx_0l, idxl_last, isaD, isIntD, isBoolD, isTupD, isStrD, asgS, isNew, putS, svsOf, svOf, mutsOk, mutOk, inMut, rds, permL, Option.map_some, Option.map_none, List.map_cons, List.map_nil, List.getElem?_cons_zero, List.getElem?_cons_succ, List.set_cons_zero, List.set_cons_succ, List.length_cons, List.length_nil, List.length_map, List.length_range, List.append_nil, List.nil_append, List.cons_append, List.contains_cons, List.contains_nil, List.getD_cons_zero, List.getD_cons_succ, Nat.reduceBEq, Nat.reduceAdd, Nat.zero_add, Nat.reduceLeDiff, Nat.reduceLT, Int.reduceLT, Int.reduceLE, Int.reduceNeg, Bool.or_false, Bool.false_or, Bool.or_true, Bool.true_or, Bool.and_true, Bool.true_and, Bool.and_self, Bool.not_true, Bool.not_false, Bool.false_eq_true, reduceCtorEq, if_true, if_false, ite_true, ite_false, true_and, and_true, and_self, decide_true, decide_false, eq_self, ne_eq, not_false_eq_true, not_true_eq_false, lim, ↓OW_cons, id]
      (refine ⟨Sp.has (by assumption), ?_⟩)
      exact h3.callH ⟨_, _, rfl, hK⟩
    · have e2 : xs.map (fun d => PyData.bool (isPos ws.length (flowD d))) = (xs.map fun d => isPos ws.length (flowD d)).map .bool := by rw [List.map_map]; rfl
      rw [e2]
      simp only [↓OW_c_asg, ↓OW_c_par, ↓OW_c_asgt, ↓OW_c_exp, ↓OW_c_app, ↓OW_c_ext, ↓OW_c_popt, ↓OW_c_pmx, ↓OW_c_set, ↓OW_c_ret, ↓OW_c_retn, ↓OW_c_brk, ↓OW_c_cnt, ↓OW_c_pass, ↓OW_nil, ↓OW_asg, ↓OW_par, ↓OW_asgt, ↓OW_exp, ↓OW_app, ↓OW_ext, ↓OW_popt, ↓OW_pmx, ↓OW_set, ↓OW_ret, ↓OW_retn, ↓OW_ife, ↓OW_brk, ↓OW_cnt, ↓OW_pass, ↓OW_for, ↓OW_whl, ↓SM_nil, ↓SM_var, ↓SM_idx, ↓W_var, ↓W_lit, ↓W_bin, ↓W_neg, ↓W_cmp, ↓W_chn, ↓W_and, ↓W_or, ↓Wb_one, ↓Wb_and, ↓Wb_or, ↓W_not, ↓W_ite, ↓W_tup, ↓W_lst, ↓W_idx, ↓W_slc, ↓W_rev, ↓W_blt, ↓W_isa, ↓Ws_nil, ↓Ws_cons, ↓Wo_nil, ↓Wo_cons, ↓W_call0, ↓W_call1, ↓W_callk, ↓W_comp, ↓Wi_rng1, ↓Wi_rng2, ↓Wi_zp, ↓Wi_cons, ↓Wi_enm, ↓hOP, ↓hCB, ↓hSEQ, ↓hIN, ↓hENM, ↓hNG, ↓hRV, ↓hOL, ↓hLS, ↓hCall, ↓hCW, ↓hFW, ↓hWW, ↓BK, ↓seqQ_nx, ↓seqQ_rt, ↓seqQ_bk, ↓seqQ_ct, ↓seqQ_ex, ↓loopQ_nx, ↓loopQ_ct, ↓loopQ_bk, ↓loopQ_rt, ↓loopQ_ex, ↓retQ_nx, ↓retQ_rt, ↓retQ_ex, ↓exQ_seq, ↓exQ_ret, IsDk_dk, OPh_some, OPh_none, OPh_map, OPh_ite, CBh_true, CBh_false, CBh_not, CBh_and, CBh_or, NGh_int, INh_int, RVh_l, RVh_t, SEQh_l, SEQh_t, ENMh_1, ENMh_2, OLh_own, LSh_l, CWh_nil, getD_0d, getD_0o, getD_s, aft_t, aft_f, aft_nd, frzA_nil, frzA_d, frzA_u, frzA_k, frzA_o, frzA_no, frzI_1, frzI_2, frzI_c, frzI_e, frzI_z, bind_nm, bind_tp, fitTs_nil, fitTs_nm, fitTs_tp, setTs_nil, setTs_nm, setTs_tp, wipe_nil, wipe_cons, noMut_non, noMut_b, noMut_i, noMut_s, noMut_l, noMut_t, noMut_fr, noMutA_nil, noMutA_cons, noMutA_app, noMutAll_ints, OP_mul, OP_fdiv, OP_mod, bop, add_i, add_l, add_t, add_s, sub_i, mul_tl, mul_ll, flat_one, pow_i, cop_lt, cop_le, cop_gt, cop_ge, cop_eq, cop_ne, cop_is, cop_isnt, isD_nn, isD_in, isD_tn, isD_ln, isD_fn, eqD_int, eqD_str, tru_b, tru_n, tru_i, tru_l, tru_t, isEmpty_map, List.isEmpty_nil, List.isEmpty_cons, enm_map, zip_map', blt, un, bi, len_l, len_t, abs_i, int_i, tup_l, tup_t, lst_l, lst_t, max2_i, min2_i, sum_li, sum_ti, idx_0t, idx_1t, idx_2t, idx_0l, idxl_last, isaD, isIntD, isBoolD, isTupD, isStrD, asgS, isNew, putS, svsOf, svOf, mutsOk, mutOk, inMut, rds, permL, Option.map_some, Option.map_none, List.map_cons, List.map_nil, List.getElem?_cons_zero, List.getElem?_cons_succ, List.set_cons_zero, List.set_cons_succ, List.length_cons, List.length_nil, List.length_map, List.length_range, List.append_nil, List.nil_append, List.cons_append, List.contains_cons, List.contains_nil, List.getD_cons_zero, List.getD_cons_succ, Nat.reduceBEq, Nat.reduceAdd, Nat.zero_add, Nat.reduceLeDiff, Nat.reduceLT, Int.reduceLT, Int.reduceLE, Int.reduceNeg, Bool.or_false, Bool.false_or, Bool.or_true, Bool.true_or, Bool.and_true, Bool.true_and, Bool.and_self, Bool.not_true, Bool.not_false, Bool.false_eq_true, reduceCtorEq, if_true, if_false, ite_true, ite_false, true_and, and_true, and_self, decide_true, decide_false, eq_self, ne_eq, not_false_eq_true, not_true_eq_false, lim, ↓OW_cons, all_lb, List.all_map]
      unfold isArr at hk
      simp only [ha, hs, Bool.true_and] at hk
      exact hk
  · walk_at "wa"
    have e : isArr ws.length d = false := by
      unfold isArr
      cases d <;> try rfl
      simp only [isArrS] at h
      simp only [h, Bool.false_and]
    rw [e] at hk
    rw [h]
    exact hk
def PCArr (ds : List Slim.D) (g : S.G) (k : Slim.D → S.G → Prop) (X : KX S) : Prop := ∃ (ws : List Slim.D) (d : Slim.D), ds = [.tuple ws, d] ∧ ws.length < lim ∧ isWts (.tuple ws) = true ∧ fewD d ∧ isArr ws.length d = true ∧ k .none g
theorem check_arrivals_sp (T : Tab S) (n : Nat) (h1 : Sp T "is_arrivals" false PArr) : SpF (S := S) ⟨false, 2, runF T false 2 n t_check_arrivals⟩ false 2 PCArr := by
  refine ⟨rfl, rfl, fun ds g k X p => ?_⟩
  obtain ⟨ws, d, rfl, hw, ht, hf, ha, hk⟩ := p
  refine ⟨rfl, ?_⟩
  rw [RW_runF]
  show OW T n t_check_arrivals [.dat (.tuple ws), .dat d] g (retQ k X)
  unfold t_check_arrivals
  walk_at "wa"
  (refine ⟨Sp.has (by assumption), ?_⟩)
  refine h1.callH ⟨_, _, rfl, hw, ht, hf, ?_⟩
  simp only [↓OW_c_asg, ↓OW_c_par, ↓OW_c_asgt, ↓OW_c_exp, ↓OW_c_app, ↓OW_c_ext, ↓OW_c_popt, ↓OW_c_pmx, ↓OW_c_set, ↓OW_c_ret, ↓OW_c_retn, ↓OW_c_brk, ↓OW_c_cnt, ↓OW_c_pass, ↓OW_nil, ↓OW_asg, ↓OW_par, ↓OW_asgt, ↓OW_exp, ↓OW_app, ↓OW_ext, ↓OW_popt, ↓OW_pmx, ↓OW_set, ↓OW_ret, ↓OW_retn, ↓OW_ife, ↓OW_brk, ↓OW_cnt, ↓OW_pass, ↓OW_for, ↓OW_whl, ↓SM_nil, ↓SM_var, ↓SM_idx, ↓W_var, ↓W_lit, ↓W_bin, ↓W_neg, ↓W_cmp, ↓W_chn, ↓W_and, ↓W_or, ↓Wb_one, ↓Wb_and, ↓Wb_or, ↓W_not, ↓W_ite, ↓W_tup, ↓W_lst, ↓W_idx, ↓W_slc, ↓W_rev, ↓W_blt, ↓W_isa, ↓Ws_nil, ↓Ws_cons, ↓Wo_nil, ↓Wo_cons, ↓W_call0, ↓W_call1, ↓W_callk, ↓W_comp, ↓Wi_rng1, ↓Wi_rng2, ↓Wi_zp, ↓Wi_cons, ↓Wi_enm, ↓hOP, ↓hCB, ↓hSEQ, ↓hIN, ↓hENM, ↓hNG, ↓hRV, ↓hOL, ↓hLS, ↓hCall, ↓hCW, ↓hFW, ↓hWW, ↓BK, ↓seqQ_nx, ↓seqQ_rt, ↓seqQ_bk, ↓seqQ_ct, ↓seqQ_ex, ↓loopQ_nx, ↓loopQ_ct, ↓loopQ_bk, ↓loopQ_rt, ↓loopQ_ex, ↓retQ_nx, ↓retQ_rt, ↓retQ_ex, ↓exQ_seq, ↓exQ_ret, IsDk_dk, OPh_some, OPh_none, OPh_map, OPh_ite, CBh_true, CBh_false, CBh_not, CBh_and, CBh_or, NGh_int, INh_int, RVh_l, RVh_t, SEQh_l, SEQh_t, ENMh_1, ENMh_2, OLh_own, LSh_l, CWh_nil, getD_0d, getD_0o, getD_s, aft_t, aft_f, aft_nd, frzA_nil, frzA_d, frzA_u, frzA_k, frzA_o, frzA_no, frzI_1, frzI_2, frzI_c, frzI_e, frzI_z, bind_nm, bind_tp, fitTs_nil, fitTs_nm, fitTs_tp, setTs_nil, setTs_nm, setTs_tp, wipe_nil, wipe_cons, noMut_non, noMut_b, noMut_i, noMut_s, noMut_l, noMut_t, noMut_fr, noMutA_nil, noMutA_cons, noMutA_app, noMutAll_ints, OP_mul, OP_fdiv, OP_mod, bop, add_i, add_l, add_t, add_s, sub_i, mul_tl, mul_ll, flat_one, pow_i, cop_lt, cop_le, cop_gt, cop_ge, cop_eq, cop_ne, cop_is, cop_isnt, isD_nn, isD_in, isD_tn, isD_ln, isD_fn, eqD_int, eqD_str, tru_b, tru_n, tru_i, tru_l, tru_t, isEmpty_map, List.isEmpty_nil, List.isEmpty_cons, enm_map, zip_map', blt, un, bi, len_l, len_t, abs_i, int_i, tup_l, tup_t, lst_l, lst_t, max2_i, min2_i, sum_li, sum_ti, idx_0t, idx_1t, idx_2t, idx_0l, idxl_last, isaD, isIntD, isBoolD, isTupD, isStrD, asgS, isNew, putS, svsOf, svOf, mutsOk, mutOk, inMut, rds, permL, Option.map_some, Option.map_none, List.map_cons, List.map_nil, List.getElem?_cons_zero, List.getElem?_cons_succ, List.set_cons_zero, List.set_cons_succ, List.length_cons, List.length_nil, List.length_map, List.length_range, List.append_nil, List.nil_append, List.cons_append, List.contains_cons, List.contains_nil, List.getD_cons_zero, List.getD_cons_succ, Nat.reduceBEq, Nat.reduceAdd, Nat.zero_add, Nat.reduceLeDiff, Nat.reduceLT, Int.reduceLT, Int.reduceLE, Int.reduceNeg, Bool.or_false, Bool.false_or, Bool.or_true, Bool.true_or, Bool.and_true, Bool.true_and, Bool.and_self, Bool.not_true, Bool.not_false, Bool.false_eq_true, reduceCtorEq, if_true, if_false, ite_true, ite_false, true_and, and_true, and_self, decide_true, decide_false, eq_self, ne_eq, not_false_eq_true, not_true_eq_false, lim, ↓OW_cons, ha]
  exact hk
def PCFlow (ds : List Slim.D) (g : S.G) (k : Slim.D → S.G → Prop) (X : KX S) : Prop := ∃ (ws : List Slim.D) (d : Slim.D), ds = [.tuple ws, d] ∧ isPos ws.length d = true ∧ k .none g
theorem check_flow_sp (T : Tab S) (n : Nat) (h1 : Sp T "is_flow" false PFlow) : SpF (S := S) ⟨false, 2, runF T false 2 n t_check_flow⟩ false 2 PCFlow := by
  refine ⟨rfl, rfl, fun ds g k X p => ?_⟩
  obtain ⟨ws, d, rfl, ht, hk⟩ := p
  refine ⟨rfl, ?_⟩
  rw [RW_runF]
  show OW T n t_check_flow [.dat (.tuple ws), .dat d] g (retQ k X)
  unfold t_check_flow
  walk_at "wa"
  (refine ⟨Sp.has (by assumption), ?_⟩)
  refine h1.callH ⟨_, _, rfl, ?_⟩
  simp only [↓OW_c_asg, ↓OW_c_par, ↓OW_c_asgt, ↓OW_c_exp, ↓OW_c_app, ↓OW_c_ext, ↓OW_c_popt, ↓OW_c_pmx, ↓OW_c_set, ↓OW_c_ret, ↓OW_c_retn, ↓OW_c_brk, ↓OW_c_cnt, ↓OW_c_pass, ↓OW_nil, ↓OW_asg, ↓OW_par, ↓OW_asgt, ↓OW_exp, ↓OW_app, ↓OW_ext, ↓OW_popt, ↓OW_pmx, ↓OW_set, ↓OW_ret, ↓OW_retn, ↓OW_ife, ↓OW_brk, ↓OW_cnt, ↓OW_pass, ↓OW_for, ↓OW_whl, ↓SM_nil, ↓SM_var, ↓SM_idx, ↓W_var, ↓W_lit, ↓W_bin, ↓W_neg, ↓W_cmp, ↓W_chn, ↓W_and, ↓W_or, ↓Wb_one, ↓Wb_and, ↓Wb_or, ↓W_not, ↓W_ite, ↓W_tup, ↓W_lst, ↓W_idx, ↓W_slc, ↓W_rev, ↓W_blt, ↓W_isa, ↓Ws_nil, ↓Ws_cons, ↓Wo_nil, ↓Wo_cons, ↓W_call0, ↓W_call1, ↓W_callk, ↓W_comp, ↓Wi_rng1, ↓Wi_rng2, ↓Wi_zp, ↓Wi_cons, ↓Wi_enm, ↓hOP, ↓hCB, ↓hSEQ, ↓hIN, ↓hENM, ↓hNG, ↓hRV, ↓hOL, ↓hLS, ↓hCall, ↓hCW, ↓hFW, ↓hWW, ↓BK, ↓seqQ_nx, ↓seqQ_rt, ↓seqQ_bk, ↓seqQ_ct, ↓seqQ_ex, ↓loopQ_nx, ↓loopQ_ct, ↓loopQ_bk, ↓loopQ_rt, ↓loopQ_ex, ↓retQ_nx, ↓retQ_rt, ↓retQ_ex, ↓exQ_seq, ↓exQ_ret, IsDk_dk, OPh_some, OPh_none, OPh_map, OPh_ite, CBh_true, CBh_false, CBh_not, CBh_and, CBh_or, NGh_int, INh_int, RVh_l, RVh_t, SEQh_l, SEQh_t, ENMh_1, ENMh_2, OLh_own, LSh_l, CWh_nil, getD_0d, getD_0o, getD_s, aft_t, aft_f, aft_nd, frzA_nil, frzA_d, frzA_u, frzA_k, frzA_o, frzA_no, frzI_1, frzI_2, frzI_c, frzI_e, frzI_z, bind_nm, bind_tp, fitTs_nil, fitTs_nm, fitTs_tp, setTs_nil, setTs_nm, setTs_tp, wipe_nil, wipe_cons, noMut_non, noMut_b, noMut_i, noMut_s, noMut_l, noMut_t, noMut_fr, noMutA_nil, noMutA_cons, noMutA_app, noMutAll_ints, OP_mul, OP_fdiv, OP_mod, bop, add_i, add_l, add_t, add_s, sub_i, mul_tl, mul_ll, flat_one, pow_i, cop_lt, cop_le, cop_gt, cop_ge, cop_eq, cop_ne, cop_is, cop_isnt, isD_nn, isD_in, isD_tn, isD_ln, isD_fn, eqD_int, eqD_str, tru_b, tru_n, tru_i, tru_l, tru_t, isEmpty_map, List.isEmpty_nil, List.isEmpty_cons, enm_map, zip_map', blt, un, bi, len_l, len_t, abs_i, int_i, tup_l, tup_t, lst_l, lst_t, max2_i, min2_i, sum_li, sum_ti, idx_0t, idx_1t, idx_2t, idx_0l, idxl_last, isaD, isIntD, isBoolD, isTupD, isStrD, asgS, isNew, putS, svsOf, svOf, mutsOk, mutOk, inMut, rds, permL, Option.map_some, Option.map_none, List.map_cons, List.map_nil, List.getElem?_cons_zero, List.getElem?_cons_succ, List.set_cons_zero, List.set_cons_succ, List.length_cons, List.length_nil, List.length_map, List.length_range, List.append_nil, List.nil_append, List.cons_append, List.contains_cons, List.contains_nil, List.getD_cons_zero, List.getD_cons_succ, Nat.reduceBEq, Nat.reduceAdd, Nat.zero_add, Nat.reduceLeDiff, Nat.reduceLT, Int.reduceLT, Int.reduceLE, Int.reduceNeg, Bool.or_false, Bool.false_or, Bool.or_true, Bool.true_or, Bool.and_true, Bool.true_and, Bool.and_self, Bool.not_true, Bool.not_false, Bool.false_eq_true, reduceCtorEq, if_true, if_false, ite_true, ite_false, true_and, and_true, and_self, decide_true, decide_false, eq_self, ne_eq, not_false_eq_true, not_true_eq_false, lim, ↓OW_cons, ht]
  exact hk
end


set_option Elab.async false
set_option linter.all false
set_option maxRecDepth 100000
set_option maxHeartbeats 4000000
/-! L2: right weights and arrivals; share, longest; the draws of arrivals. -/

open PySem PySem.Spec PyProof.Rows L2 Slim
theorem okW.wts {ws : List Int} (h : okW ws) : isWts (wD ws) = true := by
  obtain ⟨h1, h2, h3⟩ := h
  show (!(ws.map PyData.int).isEmpty && (ws.map PyData.int).all isF1) = true
  rw [Bool.and_eq_true]
  constructor
  · cases ws with
    | nil => exact absurd rfl h1
    | cons _ _ => rfl
  · rw [List.all_eq_true]
    intro d hd
    obtain ⟨w, hw, rfl⟩ := List.mem_map.mp hd
    exact decide_eq_true (h3 w hw).1
theorem okW.few {ws : List Int} (h : okW ws) : (ws.map PyData.int).length < lim := by rw [List.length_map]; exact lt_lim (Nat.le_trans h.2.1 (by decide))
theorem okW.fewD {ws : List Int} (h : okW ws) : fewD (wD ws) := h.few
theorem srtd_of {ms : List Int} (h : ms.Pairwise (· ≤ ·)) : srtd ms = true := by
  unfold srtd
  exact decide_eq_true (List.mergeSort_of_pairwise (h.imp fun h => decide_eq_true h)).symm
theorem okA.arr {n : Nat} {ps : List P3} (h : okA n ps) : isArr (n : Nat) (pD ps) = true := by
  unfold isArr
  have em : (ps.map pk).map momD = ps.map (·.1) := by rw [List.map_map]; rfl
  simp only [Bool.and_eq_true]
  refine ⟨⟨?_, by rw [em]; exact srtd_of h.asc⟩, ?_⟩
  · rw [List.all_eq_true]
    intro d hd
    obtain ⟨p, hp, rfl⟩ := List.mem_map.mp hd
    obtain ⟨q1, q2, q3, q4⟩ := h.each p hp
    show (isF0 (.int p.1) && (isF0 (.int p.2.1) && isF1 (.int p.2.2))) = true
    rw [isF0_i, isF0_i, isF1_i, decide_eq_true q1, decide_eq_true q2.1, decide_eq_true q3]; rfl
  · rw [List.all_eq_true]
    intro d hd
    obtain ⟨p, hp, rfl⟩ := List.mem_map.mp hd
    obtain ⟨q1, q2, q3, q4⟩ := h.each p hp
    show (decide (0 ≤ p.2.1) && decide (p.2.1 < (n : Int))) = true
    rw [decide_eq_true q2.1, decide_eq_true q2.2]; rfl
theorem okA.few {n : Nat} {ps : List P3} (h : okA n ps) : (ps.map pk).length < lim := by rw [List.length_map]; exact lt_lim (Nat.le_trans h.len (by decide))
theorem isPos_i {n i : Int} (h0 : 0 ≤ i) (h1 : i < n) : isPos n (.int i) = true := by
  show (decide (0 ≤ i) && decide (i < n)) = true
  rw [decide_eq_true h0, decide_eq_true h1]; rfl
theorem maxd_li (ns : List Int) : maxdD (.int 0) (.list (ns.map .int)) = some (.int (maxOr ns)) := maxd_run ns
section
variable {S : GS} {T : Tab S} {g : S.G} {k : Hid (Slim.D → S.G → Prop)} {X : Hid (KX S)}

/-- right weights, right arrivals -/
theorem Sp.cW (h : Sp T "check_weights" false (PC isWts Law.fewD)) {ws : List Int} (hw : okW ws) (hk : k.v .none g) : CallH T "check_weights" [wD ws] g := h.callH ⟨_, rfl, hw.fewD, hw.wts, hk⟩
theorem Sp.cA (h : Sp T "check_arrivals" false PCArr) {ws : List Int} {ps : List P3} (hw : okW ws) (ha : okA ws.length ps) (hk : k.v .none g) : CallH T "check_arrivals" [wD ws, pD ps] g :=
  h.callH ⟨_, _, rfl, hw.few, hw.wts, ha.few, by rw [List.length_map]; exact ha.arr, hk⟩
theorem Sp.cF (h : Sp T "check_flow" false PCFlow) {ws : List Int} {i : Int} (h0 : 0 ≤ i) (h1 : i < ws.length) (hk : k.v .none g) : CallH T "check_flow" [wD ws, .int i] g :=
  h.callH ⟨_, _, rfl, by rw [List.length_map]; exact isPos_i h0 h1, hk⟩
end
section
variable {S : GS}
theorem pf_sp {m : Nat} {φ : List Slim.D → Option Slim.D} : SpF (S := S) (pureF m φ) false m (fun ds g k X => ds.length = m ∧ ∃ d, φ ds = some d ∧ k d g) := by
  refine ⟨rfl, rfl, fun ds g k X p => ?_⟩
  obtain ⟨hl, d, e, hk⟩ := p
  refine ⟨hl, ?_⟩
  show RW (match φ ds with
    | some d => .ok d g
    | none => .no) k X
  rw [e]
  exact hk
theorem SpF.weak {F : FSpec S} {dk : Bool} {m : Nat} {P P' : List Slim.D → S.G → (Slim.D → S.G → Prop) → KX S → Prop} (h : SpF F dk m P) (w : ∀ ds g k X, P' ds g k X → P ds g k X) : SpF F dk m P' := ⟨h.1, h.2.1, fun ds g k X p => h.2.2 ds g k X (w ds g k X p)⟩

/-- a fraction of two integers -/
def PFrac (ds : List Slim.D) (g : S.G) (k : Slim.D → S.G → Prop) (X : KX S) : Prop := ∃ a b : Int, ds = [.int a, .int b] ∧ 0 < b ∧ smN b ∧ k (fr ((a : Rat) / b)) g
theorem frac_sp {F : FSpec S} (h : FracOk F) : SpF F false 2 PFrac := ⟨h.dk, h.n, fun ds g k X ⟨a, b, e, h1, h2, hk⟩ => by subst e; exact ⟨rfl, by rw [h.run a b g h1 h2]; exact hk⟩⟩
def PSame (ds : List Slim.D) (g : S.G) (k : Slim.D → S.G → Prop) (X : KX S) : Prop := ∃ d, ds = [d, d] ∧ showOk d = true ∧ k (.bool true) g
theorem same_sp : SpF (S := S) (pureF 2 φ_same) false 2 PSame := pf_sp.weak fun ds g k X ⟨d, e, h, hk⟩ => ⟨by rw [e]; rfl, _, by rw [e]; exact φ_same_self h, hk⟩
def PLongOf (ds : List Slim.D) (g : S.G) (k : Slim.D → S.G → Prop) (X : KX S) : Prop := ∃ (ps : List P3) (f : Int), ds = [pD ps, .int f] ∧ ps.length ≤ 1000 ∧ k (.int (maxOr (lensF f ps))) g
def PLongest (ds : List Slim.D) (g : S.G) (k : Slim.D → S.G → Prop) (X : KX S) : Prop := ∃ (ws : List Int) (ps : List P3), ds = [wD ws, pD ps] ∧ okW ws ∧ okA ws.length ps ∧ k (.int (maxOr (ps.map (·.2.2)))) g
theorem longest_of_sp (T : Tab S) (n : Nat) : SpF (S := S) ⟨false, 2, runF T false 5 n t_longest_of⟩ false 2 PLongOf := by
  refine ⟨rfl, rfl, fun ds g k X p => ?_⟩
  obtain ⟨ps, f, rfl, hl, hk⟩ := p
  refine ⟨rfl, ?_⟩
  rw [RW_runF]
  show OW T n t_longest_of [.dat (pD ps), .dat (.int f), .un, .un, .un] g (retQ k X)
  unfold t_longest_of
  walk_at "wa"
  refine ⟨by omega, CWh_pure (ψ := fun p : P3 => (if p.2.1 = f then some p.2.2 else none).map PyData.int) (fun p hp K' hK => ?_) ?_⟩
  · unfold BD pk
    walk_at "wa"
    refine CB_i' (fun h => ?_) (fun h => ?_)
    · walk_at "wa"; simpa only [h, if_true, Option.map_some] using hK
    · walk_at "wa"; simpa only [h, if_false, Option.map_none] using hK
  · rw [fm_map]
    simp only [↓OW_c_asg, ↓OW_c_par, ↓OW_c_asgt, ↓OW_c_exp, ↓OW_c_app, ↓OW_c_ext, ↓OW_c_popt, ↓OW_c_pmx, ↓OW_c_set, ↓OW_c_ret, ↓OW_c_retn, ↓OW_c_brk, ↓OW_c_cnt, ↓OW_c_pass, ↓OW_nil, ↓OW_asg, ↓OW_par, ↓OW_asgt, ↓OW_exp, ↓OW_app, ↓OW_ext, ↓OW_popt, ↓OW_pmx, ↓OW_set, ↓OW_ret, ↓OW_retn, ↓OW_ife, ↓OW_brk, ↓OW_cnt, ↓OW_pass, ↓OW_for, ↓OW_whl, ↓SM_nil, ↓SM_var, ↓SM_idx, ↓W_var, ↓W_lit, ↓W_bin, ↓W_neg, ↓W_cmp, ↓W_chn, ↓W_and, ↓W_or, ↓Wb_one, ↓Wb_and, ↓Wb_or, ↓W_not, ↓W_ite, ↓W_tup, ↓W_lst, ↓W_idx, ↓W_slc, ↓W_rev, ↓W_blt, ↓W_isa, ↓Ws_nil, ↓Ws_cons, ↓Wo_nil, ↓Wo_cons, ↓W_call0, ↓W_call1, ↓W_callk, ↓W_comp, ↓Wi_rng1, ↓Wi_rng2, ↓Wi_zp, ↓Wi_cons, ↓Wi_enm, ↓hOP, ↓hCB, ↓hSEQ, ↓hIN, ↓hENM, ↓hNG, ↓hRV, ↓hOL, ↓hLS, ↓hCall, ↓hCW, ↓hFW, ↓hWW, ↓BK, ↓seqQ_nx, ↓seqQ_rt, ↓seqQ_bk, ↓seqQ_ct, ↓seqQ_ex, ↓loopQ_nx, ↓loopQ_ct, ↓loopQ_bk, ↓loopQ_rt, ↓loopQ_ex, ↓retQ_nx, ↓retQ_rt, ↓retQ_ex, ↓exQ_seq, ↓exQ_ret, IsDk_dk, OPh_some, OPh_none, OPh_map, OPh_ite, CBh_true, CBh_false, CBh_not, CBh_and, CBh_or, NGh_int, INh_int, RVh_l, RVh_t, SEQh_l, SEQh_t, ENMh_1, ENMh_2, OLh_own, LSh_l, CWh_nil, getD_0d, getD_0o, getD_s, aft_t, aft_f, aft_nd, frzA_nil, frzA_d, frzA_u, frzA_k, frzA_o, frzA_no, frzI_1, frzI_2, frzI_c, frzI_e, frzI_z, bind_nm, bind_tp, fitTs_nil, fitTs_nm, fitTs_tp, setTs_nil, setTs_nm, setTs_tp, wipe_nil, wipe_cons, noMut_non, noMut_b, noMut_i, noMut_s, noMut_l, noMut_t, noMut_fr, noMutA_nil, noMutA_cons, noMutA_app, noMutAll_ints, OP_mul, OP_fdiv, OP_mod, bop, add_i, add_l, add_t, add_s, sub_i, mul_tl, mul_ll, flat_one, pow_i, cop_lt, cop_le, cop_gt, cop_ge, cop_eq, cop_ne, cop_is, cop_isnt, isD_nn, isD_in, isD_tn, isD_ln, isD_fn, eqD_int, eqD_str, tru_b, tru_n, tru_i, tru_l, tru_t, isEmpty_map, List.isEmpty_nil, List.isEmpty_cons, enm_map, zip_map', blt, un, bi, len_l, len_t, abs_i, int_i, tup_l, tup_t, lst_l, lst_t, max2_i, min2_i, sum_li, sum_ti, idx_0t, idx_1t, idx_2t, idx_0l, idxl_last, isaD, isIntD, isBoolD, isTupD, isStrD, asgS, isNew, putS, svsOf, svOf, mutsOk, mutOk, inMut, rds, permL, Option.map_some, Option.map_none, List.map_cons, List.map_nil, List.getElem?_cons_zero, List.getElem?_cons_succ, List.set_cons_zero, List.set_cons_succ, List.length_cons, List.length_nil, List.length_map, List.length_range, List.append_nil, List.nil_append, List.cons_append, List.contains_cons, List.contains_nil, List.getD_cons_zero, List.getD_cons_succ, Nat.reduceBEq, Nat.reduceAdd, Nat.zero_add, Nat.reduceLeDiff, Nat.reduceLT, Int.reduceLT, Int.reduceLE, Int.reduceNeg, Bool.or_false, Bool.false_or, Bool.or_true, Bool.true_or, Bool.and_true, Bool.true_and, Bool.and_self, Bool.not_true, Bool.not_false, Bool.false_eq_true, reduceCtorEq, if_true, if_false, ite_true, ite_false, true_and, and_true, and_self, decide_true, decide_false, eq_self, ne_eq, not_false_eq_true, not_true_eq_false, lim, ↓OW_cons, maxd_li]
    exact hk
theorem longest_sp (T : Tab S) (n : Nat) (h1 : Sp T "check_arrivals" false PCArr) : SpF (S := S) ⟨false, 2, runF T false 4 n t_longest⟩ false 2 PLongest := by
  refine ⟨rfl, rfl, fun ds g k X p => ?_⟩
  obtain ⟨ws, ps, rfl, hw, ha, hk⟩ := p
  refine ⟨rfl, ?_⟩
  rw [RW_runF]
  show OW T n t_longest [.dat (wD ws), .dat (pD ps), .un, .un] g (retQ k X)
  unfold t_longest
  walk_at "wa"
  (refine ⟨Sp.has (by assumption), ?_⟩)
  refine h1.cA hw ha ?_
  walk_at "wa"
  have := ha.len
  refine ⟨by omega, CWh_map (φ := fun p : P3 => .int p.2.2) (fun p hp K' hK => ?_) ?_⟩
  · unfold BD pk
    walk_at "wa"
    exact hK
  · have e : ps.map (fun p : P3 => PyData.int p.2.2) = (ps.map (·.2.2)).map PyData.int := by rw [List.map_map]; rfl
    rw [e]
    simp only [↓OW_c_asg, ↓OW_c_par, ↓OW_c_asgt, ↓OW_c_exp, ↓OW_c_app, ↓OW_c_ext, ↓OW_c_popt, ↓OW_c_pmx, ↓OW_c_set, ↓OW_c_ret, ↓OW_c_retn, ↓OW_c_brk, ↓OW_c_cnt, ↓OW_c_pass, ↓OW_nil, ↓OW_asg, ↓OW_par, ↓OW_asgt, ↓OW_exp, ↓OW_app, ↓OW_ext, ↓OW_popt, ↓OW_pmx, ↓OW_set, ↓OW_ret, ↓OW_retn, ↓OW_ife, ↓OW_brk, ↓OW_cnt, ↓OW_pass, ↓OW_for, ↓OW_whl, ↓SM_nil, ↓SM_var, ↓SM_idx, ↓W_var, ↓W_lit, ↓W_bin, ↓W_neg, ↓W_cmp, ↓W_chn, ↓W_and, ↓W_or, ↓Wb_one, ↓Wb_and, ↓Wb_or, ↓W_not, ↓W_ite, ↓W_tup, ↓W_lst, ↓W_idx, ↓W_slc, ↓W_rev, ↓W_blt, ↓W_isa, ↓Ws_nil, ↓Ws_cons, ↓Wo_nil, ↓Wo_cons, ↓W_call0, ↓W_call1, ↓W_callk, ↓W_comp, ↓Wi_rng1, ↓Wi_rng2, ↓Wi_zp, ↓Wi_cons, ↓Wi_enm, ↓hOP, ↓hCB, ↓hSEQ, ↓hIN, ↓hENM, ↓hNG, ↓hRV, ↓hOL, ↓hLS, ↓hCall, ↓hCW, ↓hFW, ↓hWW, ↓BK, ↓seqQ_nx, ↓seqQ_rt, ↓seqQ_bk, ↓seqQ_ct, ↓seqQ_ex, ↓loopQ_nx, ↓loopQ_ct, ↓loopQ_bk, ↓loopQ_rt, ↓loopQ_ex, ↓retQ_nx, ↓retQ_rt, ↓retQ_ex, ↓exQ_seq, ↓exQ_ret, IsDk_dk, OPh_some, OPh_none, OPh_map, OPh_ite, CBh_true, CBh_false, CBh_not, CBh_and, CBh_or, NGh_int, INh_int, RVh_l, RVh_t, SEQh_l, SEQh_t, ENMh_1, ENMh_2, OLh_own, LSh_l, CWh_nil, getD_0d, getD_0o, getD_s, aft_t, aft_f, aft_nd, frzA_nil, frzA_d, frzA_u, frzA_k, frzA_o, frzA_no, frzI_1, frzI_2, frzI_c, frzI_e, frzI_z, bind_nm, bind_tp, fitTs_nil, fitTs_nm, fitTs_tp, setTs_nil, setTs_nm, setTs_tp, wipe_nil, wipe_cons, noMut_non, noMut_b, noMut_i, noMut_s, noMut_l, noMut_t, noMut_fr, noMutA_nil, noMutA_cons, noMutA_app, noMutAll_ints, OP_mul, OP_fdiv, OP_mod, bop, add_i, add_l, add_t, add_s, sub_i, mul_tl, mul_ll, flat_one, pow_i, cop_lt, cop_le, cop_gt, cop_ge, cop_eq, cop_ne, cop_is, cop_isnt, isD_nn, isD_in, isD_tn, isD_ln, isD_fn, eqD_int, eqD_str, tru_b, tru_n, tru_i, tru_l, tru_t, isEmpty_map, List.isEmpty_nil, List.isEmpty_cons, enm_map, zip_map', blt, un, bi, len_l, len_t, abs_i, int_i, tup_l, tup_t, lst_l, lst_t, max2_i, min2_i, sum_li, sum_ti, idx_0t, idx_1t, idx_2t, idx_0l, idxl_last, isaD, isIntD, isBoolD, isTupD, isStrD, asgS, isNew, putS, svsOf, svOf, mutsOk, mutOk, inMut, rds, permL, Option.map_some, Option.map_none, List.map_cons, List.map_nil, List.getElem?_cons_zero, List.getElem?_cons_succ, List.set_cons_zero, List.set_cons_succ, List.length_cons, List.length_nil, List.length_map, List.length_range, List.append_nil, List.nil_append, List.cons_append, List.contains_cons, List.contains_nil, List.getD_cons_zero, List.getD_cons_succ, Nat.reduceBEq, Nat.reduceAdd, Nat.zero_add, Nat.reduceLeDiff, Nat.reduceLT, Int.reduceLT, Int.reduceLE, Int.reduceNeg, Bool.or_false, Bool.false_or, Bool.or_true, Bool.true_or, Bool.and_true, Bool.true_and, Bool.and_self, Bool.not_true, Bool.not_false, Bool.false_eq_true, reduceCtorEq, if_true, if_false, ite_true, ite_false, true_and, and_true, and_self, decide_true, decide_false, eq_self, ne_eq, not_false_eq_true, not_true_eq_false, lim, ↓OW_cons, maxd_li]
    exact hk
def POwn (ds : List Slim.D) (g : S.G) (k : Slim.D → S.G → Prop) (X : KX S) : Prop := ∃ (ws : List Int) (ps : List P3) (f : Int), ds = [wD ws, pD ps, .int f] ∧ okW ws ∧ okA ws.length ps ∧ 0 ≤ f ∧ f < ws.length ∧ k (.int (maxOr (lensF f ps))) g
theorem own_longest_sp (T : Tab S) (n : Nat) (h1 : Sp T "check_arrivals" false PCArr) (h2 : Sp T "check_flow" false PCFlow) (h3 : Sp T "longest_of" false PLongOf) : SpF (S := S) ⟨false, 3, runF T false 3 n t_own_longest⟩ false 3 POwn := by
  refine ⟨rfl, rfl, fun ds g k X p => ?_⟩
  obtain ⟨ws, ps, f, rfl, hw, ha, h0, hl, hk⟩ := p
  refine ⟨rfl, ?_⟩
  rw [RW_runF]
  show OW T n t_own_longest [.dat (wD ws), .dat (pD ps), .dat (.int f)] g (retQ k X)
  unfold t_own_longest
  walk_at "wa"
  (refine ⟨Sp.has (by assumption), ?_⟩)
  refine h1.cA hw ha ?_
  walk_at "wa"
  (refine ⟨Sp.has (by assumption), ?_⟩)
  refine h2.cF h0 hl ?_
  walk_at "wa"
  (refine ⟨Sp.has (by assumption), ?_⟩)
  have := ha.len
  exact h3.callH ⟨_, _, rfl, by omega, hk⟩
def PShare (ds : List Slim.D) (g : S.G) (k : Slim.D → S.G → Prop) (X : KX S) : Prop := ∃ (ws : List Int) (f : Int), ds = [wD ws, .int f] ∧ okW ws ∧ 0 ≤ f ∧ f < ws.length ∧ k (fr (((ws.getD f.toNat 0 : Int) : Rat) / (ws.sum : Int))) g
theorem share_sp (T : Tab S) (n : Nat) (h1 : Sp T "check_weights" false (PC isWts fewD)) (h2 : Sp T "check_flow" false PCFlow) (h3 : Sp T "fraction" false PFrac) : SpF (S := S) ⟨false, 2, runF T false 2 n t_share⟩ false 2 PShare := by
  refine ⟨rfl, rfl, fun ds g k X p => ?_⟩
  obtain ⟨ws, f, rfl, hw, h0, hl, hk⟩ := p
  refine ⟨rfl, ?_⟩
  rw [RW_runF]
  show OW T n t_share [.dat (wD ws), .dat (.int f)] g (retQ k X)
  unfold t_share
  walk_at "wa"
  (refine ⟨Sp.has (by assumption), ?_⟩)
  refine h1.cW hw ?_
  walk_at "wa"
  (refine ⟨Sp.has (by assumption), ?_⟩)
  refine h2.cF h0 hl ?_
  walk_at "wa"
  (refine ⟨Sp.has (by assumption), ?_⟩)
  refine OPh_of (idx_tm 0 h0 hl) ?_
  walk_at "wa"
  have hs := hw.sum
  refine h3.callH ⟨_, _, rfl, by omega, ?_, hk⟩
  unfold smN
  have : ws.sum.natAbs ≤ 96 := by omega
  exact Nat.lt_of_le_of_lt (log2_le this) (by decide)
end
section
variable {D : DK} {K : PySem.W.Frag}
def PLength (ds : List Slim.D) (g : (deckGS D K).G) (k : Slim.D → (deckGS D K).G → Prop) (X : KX (deckGS D K)) : Prop := ∃ way : Int, ds = [.int way] ∧ 0 ≤ way ∧ way ≤ 4 ∧ few g ∧ ∀ (l : Int) g', 1 ≤ l → l ≤ 60 → few g' → k (.int l) g'
theorem length_sp (T : Tab (deckGS D K)) (n : Nat) (h1 : Sp T "_law_draw" true PDraw) (h2 : Sp T "_law_pick" true PPick) : SpF (S := deckGS D K) ⟨true, 1, runF T true 2 n t__law_length⟩ true 1 PLength := by
  refine ⟨rfl, rfl, fun ds g k X p => ?_⟩
  obtain ⟨way, rfl, h0, h4, hg, hk⟩ := p
  refine ⟨rfl, ?_⟩
  rw [RW_runF]
  show OW T n t__law_length [.dk, .dat (.int way)] g (retQ k X)
  unfold t__law_length
  walk_at "wa"
  refine CB_i' (fun h => ?_) (fun h => ?_)
  · walk_at "wa"; exact hk 1 g (by decide) (by decide) hg
  walk_at "wa"
  refine CB_i' (fun h' => ?_) (fun h' => ?_)
  · walk_at "wa"
    (refine ⟨Sp.has (by assumption), ?_⟩)
    refine h1.draw (by decide) (by decide) hg fun l g l0 l1 hg => ?_
    walk_at "wa"
    exact hk _ g (by omega) (by omega) hg
  walk_at "wa"
  (refine ⟨Sp.has (by assumption), ?_⟩)
  have : way = 1 ∨ way = 2 ∨ way = 3 := by omega
  rcases this with rfl | rfl | rfl <;> simp only [↓OW_c_asg, ↓OW_c_par, ↓OW_c_asgt, ↓OW_c_exp, ↓OW_c_app, ↓OW_c_ext, ↓OW_c_popt, ↓OW_c_pmx, ↓OW_c_set, ↓OW_c_ret, ↓OW_c_retn, ↓OW_c_brk, ↓OW_c_cnt, ↓OW_c_pass, ↓OW_nil, ↓OW_asg, ↓OW_par, ↓OW_asgt, ↓OW_exp, ↓OW_app, ↓OW_ext, ↓OW_popt, ↓OW_pmx, ↓OW_set, ↓OW_ret, ↓OW_retn, ↓OW_ife, ↓OW_brk, ↓OW_cnt, ↓OW_pass, ↓OW_for, ↓OW_whl, ↓SM_nil, ↓SM_var, ↓SM_idx, ↓W_var, ↓W_lit, ↓W_bin, ↓W_neg, ↓W_cmp, ↓W_chn, ↓W_and, ↓W_or, ↓Wb_one, ↓Wb_and, ↓Wb_or, ↓W_not, ↓W_ite, ↓W_tup, ↓W_lst, ↓W_idx, ↓W_slc, ↓W_rev, ↓W_blt, ↓W_isa, ↓Ws_nil, ↓Ws_cons, ↓Wo_nil, ↓Wo_cons, ↓W_call0, ↓W_call1, ↓W_callk, ↓W_comp, ↓Wi_rng1, ↓Wi_rng2, ↓Wi_zp, ↓Wi_cons, ↓Wi_enm, ↓hOP, ↓hCB, ↓hSEQ, ↓hIN, ↓hENM, ↓hNG, ↓hRV, ↓hOL, ↓hLS, ↓hCall, ↓hCW, ↓hFW, ↓hWW, ↓BK, ↓seqQ_nx, ↓seqQ_rt, ↓seqQ_bk, ↓seqQ_ct, ↓seqQ_ex, ↓loopQ_nx, ↓loopQ_ct, ↓loopQ_bk, ↓loopQ_rt, ↓loopQ_ex, ↓retQ_nx, ↓retQ_rt, ↓retQ_ex, ↓exQ_seq, ↓exQ_ret, IsDk_dk, OPh_some, OPh_none, OPh_map, OPh_ite, CBh_true, CBh_false, CBh_not, CBh_and, CBh_or, NGh_int, INh_int, RVh_l, RVh_t, SEQh_l, SEQh_t, ENMh_1, ENMh_2, OLh_own, LSh_l, CWh_nil, getD_0d, getD_0o, getD_s, aft_t, aft_f, aft_nd, frzA_nil, frzA_d, frzA_u, frzA_k, frzA_o, frzA_no, frzI_1, frzI_2, frzI_c, frzI_e, frzI_z, bind_nm, bind_tp, fitTs_nil, fitTs_nm, fitTs_tp, setTs_nil, setTs_nm, setTs_tp, wipe_nil, wipe_cons, noMut_non, noMut_b, noMut_i, noMut_s, noMut_l, noMut_t, noMut_fr, noMutA_nil, noMutA_cons, noMutA_app, noMutAll_ints, OP_mul, OP_fdiv, OP_mod, bop, add_i, add_l, add_t, add_s, sub_i, mul_tl, mul_ll, flat_one, pow_i, cop_lt, cop_le, cop_gt, cop_ge, cop_eq, cop_ne, cop_is, cop_isnt, isD_nn, isD_in, isD_tn, isD_ln, isD_fn, eqD_int, eqD_str, tru_b, tru_n, tru_i, tru_l, tru_t, isEmpty_map, List.isEmpty_nil, List.isEmpty_cons, enm_map, zip_map', blt, un, bi, len_l, len_t, abs_i, int_i, tup_l, tup_t, lst_l, lst_t, max2_i, min2_i, sum_li, sum_ti, idx_0t, idx_1t, idx_2t, idx_0l, idxl_last, isaD, isIntD, isBoolD, isTupD, isStrD, asgS, isNew, putS, svsOf, svOf, mutsOk, mutOk, inMut, rds, permL, Option.map_some, Option.map_none, List.map_cons, List.map_nil, List.getElem?_cons_zero, List.getElem?_cons_succ, List.set_cons_zero, List.set_cons_succ, List.length_cons, List.length_nil, List.length_map, List.length_range, List.append_nil, List.nil_append, List.cons_append, List.contains_cons, List.contains_nil, List.getD_cons_zero, List.getD_cons_succ, Nat.reduceBEq, Nat.reduceAdd, Nat.zero_add, Nat.reduceLeDiff, Nat.reduceLT, Int.reduceLT, Int.reduceLE, Int.reduceNeg, Bool.or_false, Bool.false_or, Bool.or_true, Bool.true_or, Bool.and_true, Bool.true_and, Bool.and_self, Bool.not_true, Bool.not_false, Bool.false_eq_true, reduceCtorEq, if_true, if_false, ite_true, ite_false, true_and, and_true, and_self, decide_true, decide_false, eq_self, ne_eq, not_false_eq_true, not_true_eq_false, lim, ↓OW_cons, Int.reduceSub] <;> exact h2.pickI 1 60 (by simp [AllI]) (by simp) hg fun l g l0 l1 hg => hk l g l0 l1 hg
def PArrivals (ds : List Slim.D) (g : (deckGS D K).G) (k : Slim.D → (deckGS D K).G → Prop) (X : KX (deckGS D K)) : Prop := ∃ (ws : List Int) (most : Int), ds = [wD ws, .int most] ∧ okW ws ∧ 0 ≤ most ∧ most ≤ 30 ∧ few g ∧ ∀ ps g', okA ws.length ps → few g' → k (pD ps) g'
theorem arrivals_sp (T : Tab (deckGS D K)) (n : Nat) (h1 : Sp T "_law_draw" true PDraw) (h2 : Sp T "_law_pick" true PPick) (h3 : Sp T "_law_length" true PLength) : SpF (S := deckGS D K) ⟨true, 2, runF T true 10 n t__law_arrivals⟩ true 2 PArrivals := by
  refine ⟨rfl, rfl, fun ds g k X p => ?_⟩
  obtain ⟨ws, most, rfl, hw, hm0, hm1, hg, hk⟩ := p
  refine ⟨rfl, ?_⟩
  rw [RW_runF]
  show OW T n t__law_arrivals [.dk, .dat (wD ws), .dat (.int most), .un, .un, .un, .un, .un, .un, .un] g (retQ k X)
  unfold t__law_arrivals
  walk_at "wp"
  (refine ⟨Sp.has (by assumption), ?_⟩)
  refine h1.draw (by omega) (by omega) hg fun many g m0 m1 hg => ?_
  walk_at "wp"
  (refine ⟨Sp.has (by assumption), ?_⟩)
  refine h1.draw (by omega) (by omega) hg fun way g w0 w1 hg => ?_
  walk_at "wp"
  (refine ⟨Sp.has (by assumption), ?_⟩)
  refine h1.draw (by omega) (by omega) hg fun kind g k0 k1 hg => ?_
  walk_at "wp"
  refine OW_cut (fun τ g => few g ∧ ∃ many : Int, 0 ≤ many ∧ many ≤ 30 ∧ τ = [.dk, .dat (wD ws), .dat (.int most), .un, .dat (.int many), .dat (.int way), .dat (.int kind), .un, .un, .un]) ?_ ?_
  · walk_at "wp"
    (refine ⟨Sp.has (by assumption), ?_⟩)
    refine h1.draw (by omega) (by omega) hg fun u g u0 u1 hg => ?_
    walk_at "wp"
    refine CB_i' (fun h => ?_) (fun h => ?_)
    · walk_at "wp"; exact ⟨hg, 30, by decide, by decide, rfl⟩
    · walk_at "wp"; exact ⟨hg, many, by omega, by omega, rfl⟩
  clear hg
  rintro τ g ⟨hg, many, m0, m1, rfl⟩
  walk_at "wp"
  (refine ⟨Sp.has (by assumption), ?_⟩)
  refine h2.pickI 0 200 (by simp [AllI]) (by simp) hg fun mom g q0 q1 hg => ?_
  walk_at "wp"
  rw [OW_cons]
  walk_at "wp"
  refine ⟨by omega, by omega, FWh_inv (I := fun pre _ τ g => few g ∧ ∃ (go : SV) (ps : List P3) (m f : Int), (go = .un ∨ ∃ d, go = .dat d) ∧ invA ws.length ps m ∧ ps.length = pre.length ∧ 0 ≤ f ∧ f < ws.length ∧ τ = [.dk, .dat (wD ws), .dat (.int most), go, .dat (.int many), .dat (.int way), .dat (.int kind), .dat (.int m), .own (ps.map pk), .dat (.int f)]) ?_ ?_ ?_⟩
  · have := List.length_pos_iff.mpr hw.1
    exact ⟨hg, .un, [], mom, 0, .inl rfl, ⟨fun _ h => (List.not_mem_nil h).elim, by simp, fun _ h => (List.not_mem_nil h).elim, q0, by simp; omega⟩, rfl, by omega, by omega, rfl⟩
  · rintro pre a post τ g e ⟨hg, go, ps, m, f, hgo, hi, hl, f0, f1, rfl⟩
    walk_at "wp"
    refine OW_cut (fun τ g => few g ∧ ∃ m' : Int, m ≤ m' ∧ m' ≤ m + 60 ∧ τ = [.dk, .dat (wD ws), .dat (.int most), .dat (.int (a : Nat)), .dat (.int many), .dat (.int way), .dat (.int kind), .dat (.int m'), .own (ps.map pk), .dat (.int f)]) ?_ ?_
    · walk_at "wp"
      refine CB_i' (fun h => ?_) (fun h => ?_)
      · walk_at "wp"
        (refine ⟨Sp.has (by assumption), ?_⟩)
        refine h1.draw (by decide) (by decide) hg fun v g v0 v1 hg => ?_
        walk_at "wp"
        exact ⟨hg, _, by omega, by omega, rfl⟩
      walk_at "wp"
      rw [OW_cons]
      walk_at "wp"
      refine CB_i' (fun h => ?_) (fun h => ?_)
      · walk_at "wp"
        (refine ⟨Sp.has (by assumption), ?_⟩)
        refine h1.draw (by decide) (by decide) hg fun v g v0 v1 hg => ?_
        walk_at "wp"
        refine CB_i' (fun h => ?_) (fun h => ?_)
        · walk_at "wp"
          (refine ⟨Sp.has (by assumption), ?_⟩)
          refine h2.pickI 1 60 (by simp [AllI]) (by simp) hg fun v g v0 v1 hg => ?_
          walk_at "wp"
          exact ⟨hg, _, by omega, by omega, rfl⟩
        · walk_at "wp"
          rw [OW_cons]
          walk_at "wp"
          refine CB_f' (by omega) ?_
          walk_at "wp"
          exact ⟨hg, _, by omega, by omega, rfl⟩
      · simp only [↓OW_c_asg, ↓OW_c_par, ↓OW_c_asgt, ↓OW_c_exp, ↓OW_c_app, ↓OW_c_ext, ↓OW_c_popt, ↓OW_c_pmx, ↓OW_c_set, ↓OW_c_ret, ↓OW_c_retn, ↓OW_c_brk, ↓OW_c_cnt, ↓OW_c_pass, ↓OW_nil, ↓OW_asg, ↓OW_par, ↓OW_asgt, ↓OW_exp, ↓OW_app, ↓OW_ext, ↓OW_popt, ↓OW_pmx, ↓OW_set, ↓OW_ret, ↓OW_retn, ↓OW_ife, ↓OW_brk, ↓OW_cnt, ↓OW_pass, ↓OW_for, ↓OW_whl, ↓SM_nil, ↓SM_var, ↓SM_idx, ↓W_var, ↓W_lit, ↓W_bin, ↓W_neg, ↓W_cmp, ↓W_chn, ↓W_and, ↓W_or, ↓Wb_one, ↓Wb_and, ↓Wb_or, ↓W_not, ↓W_ite, ↓W_tup, ↓W_lst, ↓W_idx, ↓W_slc, ↓W_rev, ↓W_blt, ↓W_isa, ↓Ws_nil, ↓Ws_cons, ↓Wo_nil, ↓Wo_cons, ↓W_call0, ↓W_call1, ↓W_callk, ↓W_comp, ↓Wi_rng1, ↓Wi_rng2, ↓Wi_zp, ↓Wi_cons, ↓Wi_enm, ↓hOP, ↓hCB, ↓hSEQ, ↓hIN, ↓hENM, ↓hNG, ↓hRV, ↓hOL, ↓hLS, ↓hCall, ↓hCW, ↓hFW, ↓hWW, ↓BK, ↓seqQ_nx, ↓seqQ_rt, ↓seqQ_bk, ↓seqQ_ct, ↓seqQ_ex, ↓loopQ_nx, ↓loopQ_ct, ↓loopQ_bk, ↓loopQ_rt, ↓loopQ_ex, ↓retQ_nx, ↓retQ_rt, ↓retQ_ex, ↓exQ_seq, ↓exQ_ret, IsDk_dk, OPh_some, OPh_none, OPh_map, OPh_ite, CBh_true, CBh_false, CBh_not, CBh_and, CBh_or, NGh_int, INh_int, RVh_l, RVh_t, SEQh_l, SEQh_t, ENMh_1, ENMh_2, OLh_own, LSh_l, CWh_nil, getD_0d, getD_0o, getD_s, aft_t, aft_f, aft_nd, frzA_nil, frzA_d, frzA_u, frzA_k, frzA_o, frzA_no, frzI_1, frzI_2, frzI_c, frzI_e, frzI_z, bind_nm, bind_tp, fitTs_nil, fitTs_nm, fitTs_tp, setTs_nil, setTs_nm, setTs_tp, wipe_nil, wipe_cons, noMut_non, noMut_b, noMut_i, noMut_s, noMut_l, noMut_t, noMut_fr, noMutA_nil, noMutA_cons, noMutA_app, noMutAll_ints, OP_mul, OP_fdiv, OP_mod, bop, add_i, add_l, add_t, add_s, sub_i, mul_tl, mul_ll, flat_one, pow_i, cop_lt, cop_le, cop_gt, cop_ge, cop_eq, cop_ne, cop_is, cop_isnt, isD_nn, isD_in, isD_tn, isD_ln, isD_fn, eqD_int, eqD_str, tru_b, tru_n, tru_i, tru_l, tru_t, isEmpty_map, List.isEmpty_nil, List.isEmpty_cons, enm_map, zip_map', blt, un, bi, len_l, len_t, abs_i, int_i, tup_l, tup_t, lst_l, lst_t, max2_i, min2_i, sum_li, sum_ti, idx_0t, idx_1t, idx_2t, idx_0l, idxl_last, isaD, isIntD, isBoolD, isTupD, isStrD, asgS, isNew, putS, svsOf, svOf, mutsOk, mutOk, inMut, rds, permL, Option.map_some, Option.map_none, List.map_cons, List.map_nil, List.getElem?_cons_zero, List.getElem?_cons_succ, List.set_cons_zero, List.set_cons_succ, List.length_cons, List.length_nil, List.length_map, List.length_range, List.append_nil, List.nil_append, List.cons_append, List.contains_cons, List.contains_nil, List.getD_cons_zero, List.getD_cons_succ, Nat.reduceBEq, Nat.reduceAdd, Nat.zero_add, Nat.reduceLeDiff, Nat.reduceLT, Int.reduceLT, Int.reduceLE, Int.reduceNeg, Bool.or_false, Bool.false_or, Bool.or_true, Bool.true_or, Bool.and_true, Bool.true_and, Bool.and_self, Bool.not_true, Bool.not_false, Bool.false_eq_true, reduceCtorEq, if_true, if_false, ite_true, ite_false, true_and, and_true, and_self, decide_true, decide_false, eq_self, ne_eq, not_false_eq_true, not_true_eq_false, lim, h]
        rw [OW_cons]
        walk_at "wp"
        refine CB_i' (fun h => ?_) (fun h => ?_)
        · walk_at "wp"
          (refine ⟨Sp.has (by assumption), ?_⟩)
          refine h2.pickI 0 9 (by simp [AllI]) (by simp) hg fun v g v0 v1 hg => ?_
          walk_at "wp"
          exact ⟨hg, _, by omega, by omega, rfl⟩
        · walk_at "wp"
          exact ⟨hg, _, by omega, by omega, rfl⟩
    clear hg
    rintro τ g ⟨hg, m', hm0, hm1, rfl⟩
    refine OW_cut (fun τ g => few g ∧ ∃ f' : Int, 0 ≤ f' ∧ f' < ws.length ∧ τ = [.dk, .dat (wD ws), .dat (.int most), .dat (.int (a : Nat)), .dat (.int many), .dat (.int way), .dat (.int kind), .dat (.int m'), .own (ps.map pk), .dat (.int f')]) ?_ ?_
    · have hp := List.length_pos_iff.mpr hw.1
      have h8 := hw.2.1
      walk_at "wp"
      refine CB_i' (fun h => ?_) (fun h => ?_)
      · simp only [↓OW_c_asg, ↓OW_c_par, ↓OW_c_asgt, ↓OW_c_exp, ↓OW_c_app, ↓OW_c_ext, ↓OW_c_popt, ↓OW_c_pmx, ↓OW_c_set, ↓OW_c_ret, ↓OW_c_retn, ↓OW_c_brk, ↓OW_c_cnt, ↓OW_c_pass, ↓OW_nil, ↓OW_asg, ↓OW_par, ↓OW_asgt, ↓OW_exp, ↓OW_app, ↓OW_ext, ↓OW_popt, ↓OW_pmx, ↓OW_set, ↓OW_ret, ↓OW_retn, ↓OW_ife, ↓OW_brk, ↓OW_cnt, ↓OW_pass, ↓OW_for, ↓OW_whl, ↓SM_nil, ↓SM_var, ↓SM_idx, ↓W_var, ↓W_lit, ↓W_bin, ↓W_neg, ↓W_cmp, ↓W_chn, ↓W_and, ↓W_or, ↓Wb_one, ↓Wb_and, ↓Wb_or, ↓W_not, ↓W_ite, ↓W_tup, ↓W_lst, ↓W_idx, ↓W_slc, ↓W_rev, ↓W_blt, ↓W_isa, ↓Ws_nil, ↓Ws_cons, ↓Wo_nil, ↓Wo_cons, ↓W_call0, ↓W_call1, ↓W_callk, ↓W_comp, ↓Wi_rng1, ↓Wi_rng2, ↓Wi_zp, ↓Wi_cons, ↓Wi_enm, ↓hOP, ↓hCB, ↓hSEQ, ↓hIN, ↓hENM, ↓hNG, ↓hRV, ↓hOL, ↓hLS, ↓hCall, ↓hCW, ↓hFW, ↓hWW, ↓BK, ↓seqQ_nx, ↓seqQ_rt, ↓seqQ_bk, ↓seqQ_ct, ↓seqQ_ex, ↓loopQ_nx, ↓loopQ_ct, ↓loopQ_bk, ↓loopQ_rt, ↓loopQ_ex, ↓retQ_nx, ↓retQ_rt, ↓retQ_ex, ↓exQ_seq, ↓exQ_ret, IsDk_dk, OPh_some, OPh_none, OPh_map, OPh_ite, CBh_true, CBh_false, CBh_not, CBh_and, CBh_or, NGh_int, INh_int, RVh_l, RVh_t, SEQh_l, SEQh_t, ENMh_1, ENMh_2, OLh_own, LSh_l, CWh_nil, getD_0d, getD_0o, getD_s, aft_t, aft_f, aft_nd, frzA_nil, frzA_d, frzA_u, frzA_k, frzA_o, frzA_no, frzI_1, frzI_2, frzI_c, frzI_e, frzI_z, bind_nm, bind_tp, fitTs_nil, fitTs_nm, fitTs_tp, setTs_nil, setTs_nm, setTs_tp, wipe_nil, wipe_cons, noMut_non, noMut_b, noMut_i, noMut_s, noMut_l, noMut_t, noMut_fr, noMutA_nil, noMutA_cons, noMutA_app, noMutAll_ints, OP_mul, OP_fdiv, OP_mod, bop, add_i, add_l, add_t, add_s, sub_i, mul_tl, mul_ll, flat_one, pow_i, cop_lt, cop_le, cop_gt, cop_ge, cop_eq, cop_ne, cop_is, cop_isnt, isD_nn, isD_in, isD_tn, isD_ln, isD_fn, eqD_int, eqD_str, tru_b, tru_n, tru_i, tru_l, tru_t, isEmpty_map, List.isEmpty_nil, List.isEmpty_cons, enm_map, zip_map', blt, un, bi, len_l, len_t, abs_i, int_i, tup_l, tup_t, lst_l, lst_t, max2_i, min2_i, sum_li, sum_ti, idx_0t, idx_1t, idx_2t, idx_0l, idxl_last, isaD, isIntD, isBoolD, isTupD, isStrD, asgS, isNew, putS, svsOf, svOf, mutsOk, mutOk, inMut, rds, permL, Option.map_some, Option.map_none, List.map_cons, List.map_nil, List.getElem?_cons_zero, List.getElem?_cons_succ, List.set_cons_zero, List.set_cons_succ, List.length_cons, List.length_nil, List.length_map, List.length_range, List.append_nil, List.nil_append, List.cons_append, List.contains_cons, List.contains_nil, List.getD_cons_zero, List.getD_cons_succ, Nat.reduceBEq, Nat.reduceAdd, Nat.zero_add, Nat.reduceLeDiff, Nat.reduceLT, Int.reduceLT, Int.reduceLE, Int.reduceNeg, Bool.or_false, Bool.false_or, Bool.or_true, Bool.true_or, Bool.and_true, Bool.true_and, Bool.and_self, Bool.not_true, Bool.not_false, Bool.false_eq_true, reduceCtorEq, if_true, if_false, ite_true, ite_false, true_and, and_true, and_self, decide_true, decide_false, eq_self, ne_eq, not_false_eq_true, not_true_eq_false, lim, h]
        (refine ⟨Sp.has (by assumption), ?_⟩)
        refine h1.draw (by decide) (by decide) hg fun v g v0 v1 hg => ?_
        walk_at "wp"
        refine CB_i' (fun h => ?_) (fun h => ?_)
        · walk_at "wp"
          (refine ⟨Sp.has (by assumption), ?_⟩)
          refine h1.draw (by omega) (by omega) hg fun v g v0 v1 hg => ?_
          walk_at "wp"
          exact ⟨hg, _, v0, v1, rfl⟩
        · walk_at "wp"
          exact ⟨hg, _, f0, f1, rfl⟩
      · simp only [↓OW_c_asg, ↓OW_c_par, ↓OW_c_asgt, ↓OW_c_exp, ↓OW_c_app, ↓OW_c_ext, ↓OW_c_popt, ↓OW_c_pmx, ↓OW_c_set, ↓OW_c_ret, ↓OW_c_retn, ↓OW_c_brk, ↓OW_c_cnt, ↓OW_c_pass, ↓OW_nil, ↓OW_asg, ↓OW_par, ↓OW_asgt, ↓OW_exp, ↓OW_app, ↓OW_ext, ↓OW_popt, ↓OW_pmx, ↓OW_set, ↓OW_ret, ↓OW_retn, ↓OW_ife, ↓OW_brk, ↓OW_cnt, ↓OW_pass, ↓OW_for, ↓OW_whl, ↓SM_nil, ↓SM_var, ↓SM_idx, ↓W_var, ↓W_lit, ↓W_bin, ↓W_neg, ↓W_cmp, ↓W_chn, ↓W_and, ↓W_or, ↓Wb_one, ↓Wb_and, ↓Wb_or, ↓W_not, ↓W_ite, ↓W_tup, ↓W_lst, ↓W_idx, ↓W_slc, ↓W_rev, ↓W_blt, ↓W_isa, ↓Ws_nil, ↓Ws_cons, ↓Wo_nil, ↓Wo_cons, ↓W_call0, ↓W_call1, ↓W_callk, ↓W_comp, ↓Wi_rng1, ↓Wi_rng2, ↓Wi_zp, ↓Wi_cons, ↓Wi_enm, ↓hOP, ↓hCB, ↓hSEQ, ↓hIN, ↓hENM, ↓hNG, ↓hRV, ↓hOL, ↓hLS, ↓hCall, ↓hCW, ↓hFW, ↓hWW, ↓BK, ↓seqQ_nx, ↓seqQ_rt, ↓seqQ_bk, ↓seqQ_ct, ↓seqQ_ex, ↓loopQ_nx, ↓loopQ_ct, ↓loopQ_bk, ↓loopQ_rt, ↓loopQ_ex, ↓retQ_nx, ↓retQ_rt, ↓retQ_ex, ↓exQ_seq, ↓exQ_ret, IsDk_dk, OPh_some, OPh_none, OPh_map, OPh_ite, CBh_true, CBh_false, CBh_not, CBh_and, CBh_or, NGh_int, INh_int, RVh_l, RVh_t, SEQh_l, SEQh_t, ENMh_1, ENMh_2, OLh_own, LSh_l, CWh_nil, getD_0d, getD_0o, getD_s, aft_t, aft_f, aft_nd, frzA_nil, frzA_d, frzA_u, frzA_k, frzA_o, frzA_no, frzI_1, frzI_2, frzI_c, frzI_e, frzI_z, bind_nm, bind_tp, fitTs_nil, fitTs_nm, fitTs_tp, setTs_nil, setTs_nm, setTs_tp, wipe_nil, wipe_cons, noMut_non, noMut_b, noMut_i, noMut_s, noMut_l, noMut_t, noMut_fr, noMutA_nil, noMutA_cons, noMutA_app, noMutAll_ints, OP_mul, OP_fdiv, OP_mod, bop, add_i, add_l, add_t, add_s, sub_i, mul_tl, mul_ll, flat_one, pow_i, cop_lt, cop_le, cop_gt, cop_ge, cop_eq, cop_ne, cop_is, cop_isnt, isD_nn, isD_in, isD_tn, isD_ln, isD_fn, eqD_int, eqD_str, tru_b, tru_n, tru_i, tru_l, tru_t, isEmpty_map, List.isEmpty_nil, List.isEmpty_cons, enm_map, zip_map', blt, un, bi, len_l, len_t, abs_i, int_i, tup_l, tup_t, lst_l, lst_t, max2_i, min2_i, sum_li, sum_ti, idx_0t, idx_1t, idx_2t, idx_0l, idxl_last, isaD, isIntD, isBoolD, isTupD, isStrD, asgS, isNew, putS, svsOf, svOf, mutsOk, mutOk, inMut, rds, permL, Option.map_some, Option.map_none, List.map_cons, List.map_nil, List.getElem?_cons_zero, List.getElem?_cons_succ, List.set_cons_zero, List.set_cons_succ, List.length_cons, List.length_nil, List.length_map, List.length_range, List.append_nil, List.nil_append, List.cons_append, List.contains_cons, List.contains_nil, List.getD_cons_zero, List.getD_cons_succ, Nat.reduceBEq, Nat.reduceAdd, Nat.zero_add, Nat.reduceLeDiff, Nat.reduceLT, Int.reduceLT, Int.reduceLE, Int.reduceNeg, Bool.or_false, Bool.false_or, Bool.or_true, Bool.true_or, Bool.and_true, Bool.true_and, Bool.and_self, Bool.not_true, Bool.not_false, Bool.false_eq_true, reduceCtorEq, if_true, if_false, ite_true, ite_false, true_and, and_true, and_self, decide_true, decide_false, eq_self, ne_eq, not_false_eq_true, not_true_eq_false, lim, h]
        (refine ⟨Sp.has (by assumption), ?_⟩)
        refine h1.draw (by omega) (by omega) hg fun v g v0 v1 hg => ?_
        walk_at "wp"
        exact ⟨hg, _, v0, v1, rfl⟩
    clear hg
    rintro τ g ⟨hg, f', f0, f1, rfl⟩
    walk_at "wp"
    (refine ⟨Sp.has (by assumption), ?_⟩)
    refine h3.callH ⟨_, rfl, by omega, by omega, hg, fun l g l0 l1 hg => ?_⟩
    walk_at "wp"
    refine ⟨by have := congrArg List.length e; simp at this; omega, ?_⟩
    refine ⟨hg, .dat (.int (a : Nat)), ps ++ [(m', f', l)], m', f', .inr ⟨_, rfl⟩, hi.add hm0 hm1 ⟨f0, f1⟩ ⟨l0, l1⟩, by simp [hl], f0, f1, ?_⟩
    rw [List.map_append]
    rfl
  · rintro τ g ⟨hg, go, ps, m, f, hgo, hi, hl, f0, f1, rfl⟩
    rw [List.length_range] at hl
    have fin : OW T n (.cons (.ret (.blt .tuple (.cons (.var 8) .nil))) .nil) [.dk, .dat (wD ws), .dat (.int most), go, .dat (.int many), .dat (.int way), .dat (.int kind), .dat (.int m), .own (ps.map pk), .dat (.int f)] g (retQ k X) := by
      walk_at "wp"
      refine hk ps g ⟨hi.each, hi.asc, by omega, fun p hp => ?_⟩ hg
      have := hi.top p hp
      have := hi.bnd
      omega
    exact fin
end


set_option Elab.async false
set_option linter.all false
set_option maxRecDepth 100000
set_option maxHeartbeats 4000000
/-! L3: what can be shown of fractions; a law's last step. -/

open PySem PySem.Spec PyProof.Rows L2 Slim
def smS (q : Rat) : Prop := q.num.natAbs < 10 ^ 570 ∧ q.den < 10 ^ 570
theorem sh_fr {q : Rat} (h : smS q) : Sh 1 (2 * (571 + 2) + 3) (fr q) := by
  refine sh_tuple (ds := [.int q.num, .int (q.den : Nat)]) fun x hx => ?_
  simp only [List.mem_cons, List.not_mem_nil, or_false] at hx
  rcases hx with rfl | rfl
  · exact sh_big h.1
  · exact sh_big (by rw [Int.natAbs_natCast]; exact h.2)
theorem ratio_num {a b : Int} (hb : 0 < b) : ((a : Rat) / b).num.natAbs ≤ a.natAbs ∧ ((a : Rat) / b).den ≤ b.natAbs := by
  obtain ⟨h1, h2⟩ := num_div a b hb
  have hg := Nat.gcd_pos_of_pos_right a.natAbs (show 0 < b.natAbs by omega)
  constructor
  · rw [h1, Int.natAbs_ediv_of_dvd (Int.ofNat_dvd_left.mpr (Nat.gcd_dvd_left _ _)), Int.natAbs_natCast]
    exact Nat.div_le_self _ _
  · have : ((((a : Rat) / b).den : Nat) : Int).natAbs ≤ b.natAbs := by
      rw [h2, Int.natAbs_ediv_of_dvd (Int.ofNat_dvd_left.mpr (Nat.gcd_dvd_right _ _)), Int.natAbs_natCast]
      exact Nat.div_le_self _ _
    rw [Int.natAbs_natCast] at this
    exact this
theorem smS_ratio {a b : Int} (hb : 0 < b) (h1 : a.natAbs < 10 ^ 570) (h2 : b.natAbs < 10 ^ 570) : smS ((a : Rat) / b) := by
  obtain ⟨q1, q2⟩ := ratio_num (a := a) hb
  exact ⟨Nat.lt_of_le_of_lt q1 h1, Nat.lt_of_le_of_lt q2 h2⟩
def topQ {S : GS} : Out S → Prop := fun o => match o with
  | .rt (.bool true) _ => True
  | _ => False
theorem topQ_t {S : GS} {g : S.G} : topQ (.rt (.bool true) g : Out S) = True := rfl
theorem top_of {S : GS} {T : Tab S} {n : Nat} {m : Slim.S} {τ : Sl} {g : S.G} (h : OW T n m τ g topQ) : ∃ g', Slim.run T n m τ g = .rt (.bool true) g' := by
  unfold OW at h
  cases hr : Slim.run T n m τ g with
  | rt d g' =>
    rw [hr] at h
    cases d with
    | bool b => cases b with
      | true => exact ⟨g', rfl⟩
      | false => exact h.elim
    | _ => exact h.elim
  | _ => rw [hr] at h; exact h.elim
theorem maxOr_60 {ps : List P3} {n : Nat} (h : okA n ps) (f : P3 → Option Int) (hf : ∀ p l, f p = some l → l = p.2.2) : 0 ≤ maxOr (ps.filterMap f) ∧ maxOr (ps.filterMap f) ≤ 60 := by
  refine maxOr_bnd fun l hl => ?_
  obtain ⟨p, hp, e⟩ := List.mem_filterMap.mp hl
  have := h.each p hp
  rw [hf p l e]
  exact ⟨by have := this.2.2.1; omega, this.2.2.2⟩
section
variable {S : GS}
def POver (ds : List Slim.D) (g : S.G) (k : Slim.D → S.G → Prop) (X : KX S) : Prop := ∃ a b : Int, ds = [.int a, .int b] ∧ 0 ≤ a ∧ 0 < b ∧ b < 10000 ∧ k (fr ((a : Rat) / b)) g
theorem over_sp : SpF (S := S) (pureF 2 φ_over) false 2 POver := pf_sp.weak fun ds g k X ⟨a, b, e, h1, h2, h3, hk⟩ => ⟨by rw [e]; rfl, _, by rw [e]; unfold φ_over; simp only [h1, h2, h3, and_self, if_true]; rw [ratio_fr h2], hk⟩
end


set_option Elab.async false
set_option linter.all false
set_option maxRecDepth 100000
set_option maxHeartbeats 4000000
/-! L4: busy stretches. -/

open PySem PySem.Spec PyProof.Rows L2 Slim
theorem plainA_map {α : Type} {k : α → Slim.D} (h : ∀ a, (k a).plain = true) : ∀ xs : List α, PyData.plainAll (xs.map k) = true
  | [] => by rw [List.map_nil, PyData.plainAll]
  | x :: xs => by rw [List.map_cons, PyData.plainAll, h x, plainA_map h xs]; rfl
theorem eqv_lnil (xs : List Slim.D) : PyData.eqv (.list xs) (.list []) = xs.isEmpty := by
  rw [PyData.eqv]
  cases xs with
  | nil => rw [PyData.eqvAll]; rfl
  | cons x xs => rw [PyData.eqvAll]; rfl
theorem eqv_tnil (xs : List Slim.D) : PyData.eqv (.tuple xs) (.tuple []) = xs.isEmpty := by
  rw [PyData.eqv]
  cases xs with
  | nil => rw [PyData.eqvAll]; rfl
  | cons x xs => rw [PyData.eqvAll]; rfl
theorem eqD_lnil {xs : List Slim.D} (h : PyData.plainAll xs = true) : eqD (.list xs) (.list []) = some (decide (xs = [])) := by
  unfold eqD eqOk
  rw [PyData.plain, h, PyData.plain, PyData.plainAll, eqv_lnil]
  have : min (PyData.list xs).depth (PyData.list []).depth ≤ 60 := by
    refine Nat.le_trans (Nat.min_le_right _ _) ?_
    rw [PyData.depth, PyData.depthAll]; decide
  simp only [Bool.and_self, Bool.true_and, decide_eq_true this, if_true]
  cases xs <;> rfl
theorem eqD_tnil {xs : List Slim.D} (h : PyData.plainAll xs = true) : eqD (.tuple xs) (.tuple []) = some (decide (xs = [])) := by
  unfold eqD eqOk
  rw [PyData.plain, h, PyData.plain, PyData.plainAll, eqv_tnil]
  have : min (PyData.tuple xs).depth (PyData.tuple []).depth ≤ 60 := by
    refine Nat.le_trans (Nat.min_le_right _ _) ?_
    rw [PyData.depth, PyData.depthAll]; decide
  simp only [Bool.and_self, Bool.true_and, decide_eq_true this, if_true]
  cases xs <;> rfl
abbrev I2 := Int × Int
def prI (p : I2) : Slim.D := .tuple [.int p.1, .int p.2]
theorem plain_prI (p : I2) : (prI p).plain = true := by unfold prI; rw [PyData.plain, PyData.plainAll, PyData.plainAll, PyData.plainAll, plain_int, plain_int]; rfl
theorem plain_pk (p : P3) : (pk p).plain = true := by unfold pk; rw [PyData.plain, PyData.plainAll, PyData.plainAll, PyData.plainAll, PyData.plainAll, plain_int, plain_int, plain_int]; rfl
theorem noMut_prI (p : I2) : noMut (prI p) = true := rfl
theorem noMut_pk (p : P3) : noMut (pk p) = true := rfl
theorem noMutA_prI (xs : List I2) : noMutAll (xs.map prI) = true := noMutA_map noMut_prI xs

/-- busy stretches -/
def bstep (st : List (Int × Int)) (m l : Int) : List (Int × Int) := match st.getLast? with
  | some (b, e) => if m ≤ e then st.dropLast ++ [(b, e + l)] else st ++ [(m, m + l)]
  | none => [(m, m + l)]
theorem bstep_len (st : List (Int × Int)) (m l : Int) : (bstep st m l).length ≤ st.length + 1 := by
  unfold bstep
  split
  · split
    · rw [List.length_append, List.length_dropLast, List.length_singleton]; omega
    · rw [List.length_append, List.length_singleton]; omega
  · simp

/-- stretches by moments and lengths -/
def busyM (st : List (Int × Int)) (ms : List (Int × Int)) : List (Int × Int) := ms.foldl (fun st q => bstep st q.1 q.2) st

/-- what is known of stretches: ends behind all moments; bounds -/
structure stOk (M : Int) (B : Int) (st : List (Int × Int)) : Prop where
  bnd : ∀ q ∈ st, (0 ≤ q.1 ∧ q.1 ≤ B) ∧ (0 ≤ q.2 ∧ q.2 ≤ B)
  top : ∀ q, st.getLast? = some q → M ≤ q.2
theorem bstep_ok {M B m l : Int} {st : List (Int × Int)} (h : stOk M B st) (hm : 0 ≤ m) (hmB : m ≤ B) (hl : 0 ≤ l ∧ l ≤ 60) (hne : st = [] → M ≤ m) (hM : M ≤ m ∨ True) : stOk (if M ≤ m then m else M) (B + 60) (bstep st m l) := by
  unfold bstep
  cases hz : st.getLast? with
  | none =>
    have hnil : st = [] := List.getLast?_eq_none_iff.mp hz
    refine ⟨fun q hq => ?_, fun q hq => ?_⟩
    · rw [List.mem_singleton] at hq
      subst hq
      show (0 ≤ m ∧ m ≤ B + 60) ∧ (0 ≤ m + l ∧ m + l ≤ B + 60)
      omega
    · cases hq
      have := hne hnil
      show (if M ≤ m then m else M) ≤ m + l
      split <;> omega
  | some be =>
    obtain ⟨b, e⟩ := be
    have hb := h.bnd _ (List.mem_of_getLast? hz)
    have ht := h.top _ hz
    simp only at hb ht
    by_cases hme : m ≤ e
    · simp only [hme, if_true]
      refine ⟨fun q hq => ?_, fun q hq => ?_⟩
      · rcases List.mem_append.mp hq with hq | hq
        · have := h.bnd q (List.dropLast_subset _ hq)
          omega
        · rw [List.mem_singleton] at hq
          subst hq
          simp only
          omega
      · rw [List.getLast?_concat] at hq
        cases hq
        simp only
        split <;> omega
    · simp only [hme, if_false]
      refine ⟨fun q hq => ?_, fun q hq => ?_⟩
      · rcases List.mem_append.mp hq with hq | hq
        · have := h.bnd q hq
          omega
        · rw [List.mem_singleton] at hq
          subst hq
          simp only
          omega
      · rw [List.getLast?_concat] at hq
        cases hq
        simp only
        split <;> omega
theorem bstep_ne (st : List (Int × Int)) (m l : Int) : bstep st m l ≠ [] := by
  unfold bstep
  split
  · split <;> simp
  · simp
theorem busyM_ok : ∀ {ms : List (Int × Int)} {st : List (Int × Int)} {M B : Int}, stOk M B st → (st = [] → M ≤ 0) → (∀ q ∈ ms, 0 ≤ q.1 ∧ q.1 ≤ 2000 ∧ 0 ≤ q.2 ∧ q.2 ≤ 60) → 2000 ≤ B →
    ∃ M', stOk M' (B + 60 * ms.length) (busyM st ms) ∧ M ≤ M' ∧ (∀ q ∈ ms, q.1 ≤ M') ∧ (ms ≠ [] → busyM st ms ≠ [])
  | [], st, M, B, h, h0, hq, hB => ⟨M, by simpa [busyM] using h, Int.le_refl _, fun _ h => (List.not_mem_nil h).elim, fun h => absurd rfl h⟩
  | q :: ms, st, M, B, h, h0, hq, hB => by
    obtain ⟨a, b, c, d⟩ := hq q (List.mem_cons_self ..)
    have h1 := bstep_ok h a (by omega) ⟨c, d⟩ (fun z => Int.le_trans (h0 z) a) (.inr trivial)
    obtain ⟨M', h2, h3, h4, h5⟩ := busyM_ok (ms := ms) h1 (fun z => absurd z (bstep_ne _ _ _)) (fun x hx => hq x (List.mem_cons_of_mem _ hx)) (by omega)
    refine ⟨M', ?_, ?_, fun x hx => ?_, fun _ => ?_⟩
    · rw [List.length_cons]
      have e : B + 60 * ((ms.length + 1 : Nat) : Int) = B + 60 + 60 * (ms.length : Int) := by omega
      rw [e]
      exact h2
    · split at h3 <;> omega
    · rcases List.mem_cons.mp hx with rfl | hx
      · split at h3 <;> omega
      · exact h4 x hx
    · cases ms with
      | nil => exact bstep_ne _ _ _
      | cons _ _ => exact h5 (by simp)
theorem busyM_len : ∀ (ms st : List (Int × Int)), (busyM st ms).length ≤ st.length + ms.length
  | [], st => by simp [busyM]
  | q :: ms, st => by
    have h1 := busyM_len ms (bstep st q.1 q.2)
    have h2 := bstep_len st q.1 q.2
    show (busyM (bstep st q.1 q.2) ms).length ≤ _
    rw [List.length_cons]
    omega
def busyP (ps : List P3) : List (Int × Int) := busyM [] (ps.map fun p => (p.1, p.2.2))
theorem busyP_ok {nf : Nat} {ps : List P3} (a : okA nf ps) : (∀ q ∈ busyP ps, (0 ≤ q.1 ∧ q.1 ≤ 3800) ∧ (0 ≤ q.2 ∧ q.2 ≤ 3800)) ∧ (busyP ps).length ≤ 30 ∧ (ps ≠ [] → ∃ q, (busyP ps).getLast? = some q ∧ ∀ p ∈ ps, p.1 ≤ q.2) := by
  have hq : ∀ q ∈ (ps.map fun p => (p.1, p.2.2)), 0 ≤ q.1 ∧ q.1 ≤ 2000 ∧ 0 ≤ q.2 ∧ q.2 ≤ 60 := fun q hq => by
    obtain ⟨p, hp, rfl⟩ := List.mem_map.mp hq
    obtain ⟨z1, z2, z3, z4⟩ := a.each p hp
    exact ⟨z1, a.mom p hp, by omega, z4⟩
  obtain ⟨M, h1, h2, h3, h4⟩ := busyM_ok (ms := ps.map fun p => (p.1, p.2.2)) (st := []) (M := 0) (B := 2000) ⟨fun _ h => (List.not_mem_nil h).elim, fun _ h => nomatch h⟩ (fun _ => Int.le_refl _) hq (Int.le_refl _)
  have hl := a.len
  refine ⟨fun q hq => ?_, ?_, fun hne => ?_⟩
  · have := h1.bnd q hq
    rw [List.length_map] at this
    omega
  · have := busyM_len (ps.map fun p => (p.1, p.2.2)) []
    rw [List.length_map] at this
    exact Nat.le_trans this (by simpa using hl)
  · have hb := h4 (by simpa using hne)
    have hs := List.getLast?_eq_some_getLast hb
    refine ⟨_, hs, fun p hp => ?_⟩
    exact Int.le_trans (h3 _ (List.mem_map.mpr ⟨p, hp, rfl⟩)) (h1.top _ hs)
theorem sh_busy {nf : Nat} {ps : List P3} (a : okA nf ps) : Sh 2 1100 (.tuple ((busyP ps).map prI)) := by
  obtain ⟨h1, h2, _⟩ := busyP_ok a
  refine (sh_tuple (k := 1) (n := 33) fun d hd => ?_).mono (Nat.le_refl _) ?_
  · obtain ⟨q, hq, rfl⟩ := List.mem_map.mp hd
    obtain ⟨b1, b2⟩ := h1 q hq
    refine sh_tuple (k := 0) (n := 13) (ds := [_, _]) fun d hd => ?_
    simp only [List.mem_cons, List.not_mem_nil, or_false] at hd
    have p : (3800 : Nat) < 10 ^ 12 := by decide
    rcases hd with rfl | rfl
    · exact sh_int (Nat.lt_of_le_of_lt (show q.1.natAbs ≤ 3800 by omega) p)
    · exact sh_int (Nat.lt_of_le_of_lt (show q.2.natAbs ≤ 3800 by omega) p)
  · rw [List.length_map]
    have : (busyP ps).length * (33 + 2) ≤ 30 * 35 := Nat.mul_le_mul h2 (Nat.le_refl _)
    omega
theorem okA.take {nf : Nat} {ps : List P3} (a : okA nf ps) (k : Nat) : okA nf (ps.take k) where
  each := fun p hp => a.each p (List.mem_of_mem_take hp)
  asc := by rw [List.map_take]; exact a.asc.sublist (List.take_sublist _ _)
  len := Nat.le_trans (by rw [List.length_take]; exact Nat.min_le_right _ _) a.len
  mom := fun p hp => a.mom p (List.mem_of_mem_take hp)
theorem okA.snoc {nf : Nat} {ps : List P3} (a : okA nf ps) (hl : ps.length ≤ 29) {m f l : Int} (hm : m ≤ 2000) (h0 : 0 ≤ m) (htop : ∀ p ∈ ps, p.1 ≤ m) (hf : 0 ≤ f ∧ f < nf) (hlen : 1 ≤ l ∧ l ≤ 60) : okA nf (ps ++ [(m, f, l)]) where
  each := fun p hp => by
    rcases List.mem_append.mp hp with hp | hp
    · exact a.each p hp
    · rw [List.mem_singleton] at hp
      subst hp
      exact ⟨h0, hf, hlen⟩
  asc := by
    rw [List.map_append, List.pairwise_append]
    refine ⟨a.asc, by simp, fun x hx b hb => ?_⟩
    obtain ⟨p, hp, rfl⟩ := List.mem_map.mp hx
    simp only [List.map_cons, List.map_nil, List.mem_singleton] at hb
    have := htop p hp
    omega
  len := by rw [List.length_append, List.length_singleton]; omega
  mom := fun p hp => by
    rcases List.mem_append.mp hp with hp | hp
    · exact a.mom p hp
    · rw [List.mem_singleton] at hp
      subst hp
      exact hm
theorem busyP_nil : busyP [] = [] := rfl
theorem busyP_snoc (ps : List P3) (a : P3) : busyP (ps ++ [a]) = bstep (busyP ps) a.1 a.2.2 := by
  unfold busyP
  rw [List.map_append]
  generalize ([] : List (Int × Int)) = st
  generalize hm : (ps.map fun p : P3 => (p.1, p.2.2)) = ms
  clear hm
  induction ms generalizing st with
  | nil => rfl
  | cons m ms ih => exact ih (bstep st m.1 m.2)
theorem busyP_len (ps : List P3) : (busyP ps).length ≤ ps.length := by
  have := busyM_len (ps.map fun p => (p.1, p.2.2)) []
  rw [List.length_map] at this
  simpa [busyP] using this
section
variable {S : GS}
def PLBusy (ds : List Slim.D) (g : S.G) (k : Slim.D → S.G → Prop) (X : KX S) : Prop := ∃ ps : List P3, ds = [pD ps] ∧ ps.length ≤ 100 ∧ k (.tuple ((busyP ps).map prI)) g
def PBusy (ds : List Slim.D) (g : S.G) (k : Slim.D → S.G → Prop) (X : KX S) : Prop := ∃ (ws : List Int) (ps : List P3), ds = [wD ws, pD ps] ∧ okW ws ∧ okA ws.length ps ∧ k (.tuple ((busyP ps).map prI)) g
theorem busy_sp (T : Tab S) (n : Nat) (h1 : Sp T "check_arrivals" false PCArr) : SpF (S := S) ⟨false, 2, runF T false 8 n t_busy⟩ false 2 PBusy := by
  refine ⟨rfl, rfl, fun ds g k X p => ?_⟩
  obtain ⟨ws, ps, rfl, hw, ha, hk⟩ := p
  refine ⟨rfl, ?_⟩
  rw [RW_runF]
  show OW T n t_busy [.dat (wD ws), .dat (pD ps), .un, .un, .un, .un, .un, .un] g (retQ k X)
  unfold t_busy
  have hlen := ha.len
  walk_at "wp"
  (refine ⟨Sp.has (by assumption), ?_⟩)
  refine h1.cA hw ha ?_
  walk_at "wp"
  rw [OW_cons]
  walk_at "wp"
  refine ⟨by omega, FWh_inv (I := fun pre _ τ (g' : S.G) => g' = g ∧ ∃ s3 s4 s5 s6 s7, τ = [.dat (wD ws), .dat (pD ps), .own ((busyP pre).map prI), s3, s4, s5, s6, s7]) ⟨rfl, _, _, _, _, _, rfl⟩ ?_ ?_⟩
  · rintro pre a post τ g' e ⟨rfl, s3, s4, s5, s6, s7, rfl⟩
    have hpl : pre.length ≤ 30 := by have := congrArg List.length e; simp at this; omega
    have hb := busyP_len pre
    have hnext := busyP_snoc pre a
    rw [hnext]
    unfold pk
    walk_at "wp"
    rw [OW_cons]
    walk_at "wp"
    cases hl : (busyP pre).getLast? with
    | none =>
      have h0 : busyP pre = [] := List.getLast?_eq_none_iff.mp hl
      simp only [↓OW_c_asg, ↓OW_c_par, ↓OW_c_asgt, ↓OW_c_exp, ↓OW_c_app, ↓OW_c_ext, ↓OW_c_popt, ↓OW_c_pmx, ↓OW_c_set, ↓OW_c_ret, ↓OW_c_retn, ↓OW_c_brk, ↓OW_c_cnt, ↓OW_c_pass, ↓OW_nil, ↓OW_asg, ↓OW_par, ↓OW_asgt, ↓OW_exp, ↓OW_app, ↓OW_ext, ↓OW_popt, ↓OW_pmx, ↓OW_set, ↓OW_ret, ↓OW_retn, ↓OW_ife, ↓OW_brk, ↓OW_cnt, ↓OW_pass, ↓OW_for, ↓OW_whl, ↓SM_nil, ↓SM_var, ↓SM_idx, ↓W_var, ↓W_lit, ↓W_bin, ↓W_neg, ↓W_cmp, ↓W_chn, ↓W_and, ↓W_or, ↓Wb_one, ↓Wb_and, ↓Wb_or, ↓W_not, ↓W_ite, ↓W_tup, ↓W_lst, ↓W_idx, ↓W_slc, ↓W_rev, ↓W_blt, ↓W_isa, ↓Ws_nil, ↓Ws_cons, ↓Wo_nil, ↓Wo_cons, ↓W_call0, ↓W_call1, ↓W_callk, ↓W_comp, ↓Wi_rng1, ↓Wi_rng2, ↓Wi_zp, ↓Wi_cons, ↓Wi_enm, ↓hOP, ↓hCB, ↓hSEQ, ↓hIN, ↓hENM, ↓hNG, ↓hRV, ↓hOL, ↓hLS, ↓hCall, ↓hCW, ↓hFW, ↓hWW, ↓BK, ↓seqQ_nx, ↓seqQ_rt, ↓seqQ_bk, ↓seqQ_ct, ↓seqQ_ex, ↓loopQ_nx, ↓loopQ_ct, ↓loopQ_bk, ↓loopQ_rt, ↓loopQ_ex, ↓retQ_nx, ↓retQ_rt, ↓retQ_ex, ↓exQ_seq, ↓exQ_ret, IsDk_dk, OPh_some, OPh_none, OPh_map, OPh_ite, CBh_true, CBh_false, CBh_not, CBh_and, CBh_or, NGh_int, INh_int, RVh_l, RVh_t, SEQh_l, SEQh_t, ENMh_1, ENMh_2, OLh_own, LSh_l, CWh_nil, getD_0d, getD_0o, getD_s, aft_t, aft_f, aft_nd, frzA_nil, frzA_d, frzA_u, frzA_k, frzA_o, frzA_no, frzI_1, frzI_2, frzI_c, frzI_e, frzI_z, bind_nm, bind_tp, fitTs_nil, fitTs_nm, fitTs_tp, setTs_nil, setTs_nm, setTs_tp, wipe_nil, wipe_cons, noMut_non, noMut_b, noMut_i, noMut_s, noMut_l, noMut_t, noMut_fr, noMutA_nil, noMutA_cons, noMutA_app, noMutAll_ints, OP_mul, OP_fdiv, OP_mod, bop, add_i, add_l, add_t, add_s, sub_i, mul_tl, mul_ll, flat_one, pow_i, cop_lt, cop_le, cop_gt, cop_ge, cop_eq, cop_ne, cop_is, cop_isnt, isD_nn, isD_in, isD_tn, isD_ln, isD_fn, eqD_int, eqD_str, tru_b, tru_n, tru_i, tru_l, tru_t, isEmpty_map, List.isEmpty_nil, List.isEmpty_cons, enm_map, zip_map', blt, un, bi, len_l, len_t, abs_i, int_i, tup_l, tup_t, lst_l, lst_t, max2_i, min2_i, sum_li, sum_ti, idx_0t, idx_1t, idx_2t, idx_0l, idxl_last, isaD, isIntD, isBoolD, isTupD, isStrD, asgS, isNew, putS, svsOf, svOf, mutsOk, mutOk, inMut, rds, permL, Option.map_some, Option.map_none, List.map_cons, List.map_nil, List.getElem?_cons_zero, List.getElem?_cons_succ, List.set_cons_zero, List.set_cons_succ, List.length_cons, List.length_nil, List.length_map, List.length_range, List.append_nil, List.nil_append, List.cons_append, List.contains_cons, List.contains_nil, List.getD_cons_zero, List.getD_cons_succ, Nat.reduceBEq, Nat.reduceAdd, Nat.zero_add, Nat.reduceLeDiff, Nat.reduceLT, Int.reduceLT, Int.reduceLE, Int.reduceNeg, Bool.or_false, Bool.false_or, Bool.or_true, Bool.true_or, Bool.and_true, Bool.true_and, Bool.and_self, Bool.not_true, Bool.not_false, Bool.false_eq_true, reduceCtorEq, if_true, if_false, ite_true, ite_false, true_and, and_true, and_self, decide_true, decide_false, eq_self, ne_eq, not_false_eq_true, not_true_eq_false, lim, h0]
      exact ⟨_, _, _, _, _, rfl⟩
    | some x =>
      obtain ⟨b, e'⟩ := x
      have hne : busyP pre ≠ [] := fun z => by rw [z] at hl; cases hl
      have hdl : ((busyP pre).map prI).dropLast = ((busyP pre).dropLast).map prI := by rw [List.dropLast_eq_take, List.dropLast_eq_take, List.length_map, List.map_take]
      simp only [↓OW_c_asg, ↓OW_c_par, ↓OW_c_asgt, ↓OW_c_exp, ↓OW_c_app, ↓OW_c_ext, ↓OW_c_popt, ↓OW_c_pmx, ↓OW_c_set, ↓OW_c_ret, ↓OW_c_retn, ↓OW_c_brk, ↓OW_c_cnt, ↓OW_c_pass, ↓OW_nil, ↓OW_asg, ↓OW_par, ↓OW_asgt, ↓OW_exp, ↓OW_app, ↓OW_ext, ↓OW_popt, ↓OW_pmx, ↓OW_set, ↓OW_ret, ↓OW_retn, ↓OW_ife, ↓OW_brk, ↓OW_cnt, ↓OW_pass, ↓OW_for, ↓OW_whl, ↓SM_nil, ↓SM_var, ↓SM_idx, ↓W_var, ↓W_lit, ↓W_bin, ↓W_neg, ↓W_cmp, ↓W_chn, ↓W_and, ↓W_or, ↓Wb_one, ↓Wb_and, ↓Wb_or, ↓W_not, ↓W_ite, ↓W_tup, ↓W_lst, ↓W_idx, ↓W_slc, ↓W_rev, ↓W_blt, ↓W_isa, ↓Ws_nil, ↓Ws_cons, ↓Wo_nil, ↓Wo_cons, ↓W_call0, ↓W_call1, ↓W_callk, ↓W_comp, ↓Wi_rng1, ↓Wi_rng2, ↓Wi_zp, ↓Wi_cons, ↓Wi_enm, ↓hOP, ↓hCB, ↓hSEQ, ↓hIN, ↓hENM, ↓hNG, ↓hRV, ↓hOL, ↓hLS, ↓hCall, ↓hCW, ↓hFW, ↓hWW, ↓BK, ↓seqQ_nx, ↓seqQ_rt, ↓seqQ_bk, ↓seqQ_ct, ↓seqQ_ex, ↓loopQ_nx, ↓loopQ_ct, ↓loopQ_bk, ↓loopQ_rt, ↓loopQ_ex, ↓retQ_nx, ↓retQ_rt, ↓retQ_ex, ↓exQ_seq, ↓exQ_ret, IsDk_dk, OPh_some, OPh_none, OPh_map, OPh_ite, CBh_true, CBh_false, CBh_not, CBh_and, CBh_or, NGh_int, INh_int, RVh_l, RVh_t, SEQh_l, SEQh_t, ENMh_1, ENMh_2, OLh_own, LSh_l, CWh_nil, getD_0d, getD_0o, getD_s, aft_t, aft_f, aft_nd, frzA_nil, frzA_d, frzA_u, frzA_k, frzA_o, frzA_no, frzI_1, frzI_2, frzI_c, frzI_e, frzI_z, bind_nm, bind_tp, fitTs_nil, fitTs_nm, fitTs_tp, setTs_nil, setTs_nm, setTs_tp, wipe_nil, wipe_cons, noMut_non, noMut_b, noMut_i, noMut_s, noMut_l, noMut_t, noMut_fr, noMutA_nil, noMutA_cons, noMutA_app, noMutAll_ints, OP_mul, OP_fdiv, OP_mod, bop, add_i, add_l, add_t, add_s, sub_i, mul_tl, mul_ll, flat_one, pow_i, cop_lt, cop_le, cop_gt, cop_ge, cop_eq, cop_ne, cop_is, cop_isnt, isD_nn, isD_in, isD_tn, isD_ln, isD_fn, eqD_int, eqD_str, tru_b, tru_n, tru_i, tru_l, tru_t, isEmpty_map, List.isEmpty_nil, List.isEmpty_cons, enm_map, zip_map', blt, un, bi, len_l, len_t, abs_i, int_i, tup_l, tup_t, lst_l, lst_t, max2_i, min2_i, sum_li, sum_ti, idx_0t, idx_1t, idx_2t, idx_0l, idxl_last, isaD, isIntD, isBoolD, isTupD, isStrD, asgS, isNew, putS, svsOf, svOf, mutsOk, mutOk, inMut, rds, permL, Option.map_some, Option.map_none, List.map_cons, List.map_nil, List.getElem?_cons_zero, List.getElem?_cons_succ, List.set_cons_zero, List.set_cons_succ, List.length_cons, List.length_nil, List.length_map, List.length_range, List.append_nil, List.nil_append, List.cons_append, List.contains_cons, List.contains_nil, List.getD_cons_zero, List.getD_cons_succ, Nat.reduceBEq, Nat.reduceAdd, Nat.zero_add, Nat.reduceLeDiff, Nat.reduceLT, Int.reduceLT, Int.reduceLE, Int.reduceNeg, Bool.or_false, Bool.false_or, Bool.or_true, Bool.true_or, Bool.and_true, Bool.true_and, Bool.and_self, Bool.not_true, Bool.not_false, Bool.false_eq_true, reduceCtorEq, if_true, if_false, ite_true, ite_false, true_and, and_true, and_self, decide_true, decide_false, eq_self, ne_eq, not_false_eq_true, not_true_eq_false, lim, hne, List.getLast?_map, hl, prI]
      refine CB_i' (fun h => ?_) (fun h => ?_)
      · simp only [↓OW_c_asg, ↓OW_c_par, ↓OW_c_asgt, ↓OW_c_exp, ↓OW_c_app, ↓OW_c_ext, ↓OW_c_popt, ↓OW_c_pmx, ↓OW_c_set, ↓OW_c_ret, ↓OW_c_retn, ↓OW_c_brk, ↓OW_c_cnt, ↓OW_c_pass, ↓OW_nil, ↓OW_asg, ↓OW_par, ↓OW_asgt, ↓OW_exp, ↓OW_app, ↓OW_ext, ↓OW_popt, ↓OW_pmx, ↓OW_set, ↓OW_ret, ↓OW_retn, ↓OW_ife, ↓OW_brk, ↓OW_cnt, ↓OW_pass, ↓OW_for, ↓OW_whl, ↓SM_nil, ↓SM_var, ↓SM_idx, ↓W_var, ↓W_lit, ↓W_bin, ↓W_neg, ↓W_cmp, ↓W_chn, ↓W_and, ↓W_or, ↓Wb_one, ↓Wb_and, ↓Wb_or, ↓W_not, ↓W_ite, ↓W_tup, ↓W_lst, ↓W_idx, ↓W_slc, ↓W_rev, ↓W_blt, ↓W_isa, ↓Ws_nil, ↓Ws_cons, ↓Wo_nil, ↓Wo_cons, ↓W_call0, ↓W_call1, ↓W_callk, ↓W_comp, ↓Wi_rng1, ↓Wi_rng2, ↓Wi_zp, ↓Wi_cons, ↓Wi_enm, ↓hOP, ↓hCB, ↓hSEQ, ↓hIN, ↓hENM, ↓hNG, ↓hRV, ↓hOL, ↓hLS, ↓hCall, ↓hCW, ↓hFW, ↓hWW, ↓BK, ↓seqQ_nx, ↓seqQ_rt, ↓seqQ_bk, ↓seqQ_ct, ↓seqQ_ex, ↓loopQ_nx, ↓loopQ_ct, ↓loopQ_bk, ↓loopQ_rt, ↓loopQ_ex, ↓retQ_nx, ↓retQ_rt, ↓retQ_ex, ↓exQ_seq, ↓exQ_ret, IsDk_dk, OPh_some, OPh_none, OPh_map, OPh_ite, CBh_true, CBh_false, CBh_not, CBh_and, CBh_or, NGh_int, INh_int, RVh_l, RVh_t, SEQh_l, SEQh_t, ENMh_1, ENMh_2, OLh_own, LSh_l, CWh_nil, getD_0d, getD_0o, getD_s, aft_t, aft_f, aft_nd, frzA_nil, frzA_d, frzA_u, frzA_k, frzA_o, frzA_no, frzI_1, frzI_2, frzI_c, frzI_e, frzI_z, bind_nm, bind_tp, fitTs_nil, fitTs_nm, fitTs_tp, setTs_nil, setTs_nm, setTs_tp, wipe_nil, wipe_cons, noMut_non, noMut_b, noMut_i, noMut_s, noMut_l, noMut_t, noMut_fr, noMutA_nil, noMutA_cons, noMutA_app, noMutAll_ints, OP_mul, OP_fdiv, OP_mod, bop, add_i, add_l, add_t, add_s, sub_i, mul_tl, mul_ll, flat_one, pow_i, cop_lt, cop_le, cop_gt, cop_ge, cop_eq, cop_ne, cop_is, cop_isnt, isD_nn, isD_in, isD_tn, isD_ln, isD_fn, eqD_int, eqD_str, tru_b, tru_n, tru_i, tru_l, tru_t, isEmpty_map, List.isEmpty_nil, List.isEmpty_cons, enm_map, zip_map', blt, un, bi, len_l, len_t, abs_i, int_i, tup_l, tup_t, lst_l, lst_t, max2_i, min2_i, sum_li, sum_ti, idx_0t, idx_1t, idx_2t, idx_0l, idxl_last, isaD, isIntD, isBoolD, isTupD, isStrD, asgS, isNew, putS, svsOf, svOf, mutsOk, mutOk, inMut, rds, permL, Option.map_some, Option.map_none, List.map_cons, List.map_nil, List.getElem?_cons_zero, List.getElem?_cons_succ, List.set_cons_zero, List.set_cons_succ, List.length_cons, List.length_nil, List.length_map, List.length_range, List.append_nil, List.nil_append, List.cons_append, List.contains_cons, List.contains_nil, List.getD_cons_zero, List.getD_cons_succ, Nat.reduceBEq, Nat.reduceAdd, Nat.zero_add, Nat.reduceLeDiff, Nat.reduceLT, Int.reduceLT, Int.reduceLE, Int.reduceNeg, Bool.or_false, Bool.false_or, Bool.or_true, Bool.true_or, Bool.and_true, Bool.true_and, Bool.and_self, Bool.not_true, Bool.not_false, Bool.false_eq_true, reduceCtorEq, if_true, if_false, ite_true, ite_false, true_and, and_true, and_self, decide_true, decide_false, eq_self, ne_eq, not_false_eq_true, not_true_eq_false, lim, List.getLast?_map, hl, prI, hdl]
        have hm : (bstep (busyP pre) a.1 a.2.2).map prI = ((busyP pre).dropLast).map prI ++ [.tuple [.int b, .int (e' + a.2.2)]] := by
          unfold bstep
          rw [hl]
          simp only [h, if_true, List.map_append]
          rfl
        rw [hm]
        exact ⟨by rw [List.length_dropLast]; omega, _, _, _, _, _, rfl⟩
      · walk_at "wp"
        have hm : (bstep (busyP pre) a.1 a.2.2).map prI = (busyP pre).map prI ++ [.tuple [.int a.1, .int (a.1 + a.2.2)]] := by
          unfold bstep
          rw [hl]
          simp only [h, if_false, List.map_append]
          rfl
        rw [hm]
        exact ⟨by omega, _, _, _, _, _, rfl⟩
  · rintro τ g' ⟨rfl, s3, s4, s5, s6, s7, rfl⟩
    walk_at "wp"
    exact hk
theorem lbusy_sp (T : Tab S) (n : Nat) : SpF (S := S) ⟨false, 1, runF T false 5 n t__law_busy⟩ false 1 PLBusy := by
  refine ⟨rfl, rfl, fun ds g k X p => ?_⟩
  obtain ⟨ps, rfl, hlen, hk⟩ := p
  refine ⟨rfl, ?_⟩
  rw [RW_runF]
  show OW T n t__law_busy [.dat (pD ps), .un, .un, .un, .un] g (retQ k X)
  unfold t__law_busy
  walk_at "wp"
  rw [OW_cons]
  walk_at "wp"
  refine ⟨by omega, FWh_inv (I := fun pre _ τ (g' : S.G) => g' = g ∧ ∃ s2 s3 s4, τ = [.dat (pD ps), .own ((busyP pre).map prI), s2, s3, s4]) ⟨rfl, _, _, _, rfl⟩ ?_ ?_⟩
  · rintro pre a post τ g' e ⟨rfl, s2, s3, s4, rfl⟩
    have hpl : pre.length ≤ 100 := by have := congrArg List.length e; simp at this; omega
    have hb := busyP_len pre
    have hnext := busyP_snoc pre a
    rw [hnext]
    unfold pk
    walk_at "wp"
    rw [OW_cons]
    simp only [↓OW_c_asg, ↓OW_c_par, ↓OW_c_asgt, ↓OW_c_exp, ↓OW_c_app, ↓OW_c_ext, ↓OW_c_popt, ↓OW_c_pmx, ↓OW_c_set, ↓OW_c_ret, ↓OW_c_retn, ↓OW_c_brk, ↓OW_c_cnt, ↓OW_c_pass, ↓OW_nil, ↓OW_asg, ↓OW_par, ↓OW_asgt, ↓OW_exp, ↓OW_app, ↓OW_ext, ↓OW_popt, ↓OW_pmx, ↓OW_set, ↓OW_ret, ↓OW_retn, ↓OW_ife, ↓OW_brk, ↓OW_cnt, ↓OW_pass, ↓OW_for, ↓OW_whl, ↓SM_nil, ↓SM_var, ↓SM_idx, ↓W_var, ↓W_lit, ↓W_bin, ↓W_neg, ↓W_cmp, ↓W_chn, ↓W_and, ↓W_or, ↓Wb_one, ↓Wb_and, ↓Wb_or, ↓W_not, ↓W_ite, ↓W_tup, ↓W_lst, ↓W_idx, ↓W_slc, ↓W_rev, ↓W_blt, ↓W_isa, ↓Ws_nil, ↓Ws_cons, ↓Wo_nil, ↓Wo_cons, ↓W_call0, ↓W_call1, ↓W_callk, ↓W_comp, ↓Wi_rng1, ↓Wi_rng2, ↓Wi_zp, ↓Wi_cons, ↓Wi_enm, ↓hOP, ↓hCB, ↓hSEQ, ↓hIN, ↓hENM, ↓hNG, ↓hRV, ↓hOL, ↓hLS, ↓hCall, ↓hCW, ↓hFW, ↓hWW, ↓BK, ↓seqQ_nx, ↓seqQ_rt, ↓seqQ_bk, ↓seqQ_ct, ↓seqQ_ex, ↓loopQ_nx, ↓loopQ_ct, ↓loopQ_bk, ↓loopQ_rt, ↓loopQ_ex, ↓retQ_nx, ↓retQ_rt, ↓retQ_ex, ↓exQ_seq, ↓exQ_ret, IsDk_dk, OPh_some, OPh_none, OPh_map, OPh_ite, CBh_true, CBh_false, CBh_not, CBh_and, CBh_or, NGh_int, INh_int, RVh_l, RVh_t, SEQh_l, SEQh_t, ENMh_1, ENMh_2, OLh_own, LSh_l, CWh_nil, getD_0d, getD_0o, getD_s, aft_t, aft_f, aft_nd, frzA_nil, frzA_d, frzA_u, frzA_k, frzA_o, frzA_no, frzI_1, frzI_2, frzI_c, frzI_e, frzI_z, bind_nm, bind_tp, fitTs_nil, fitTs_nm, fitTs_tp, setTs_nil, setTs_nm, setTs_tp, wipe_nil, wipe_cons, noMut_non, noMut_b, noMut_i, noMut_s, noMut_l, noMut_t, noMut_fr, noMutA_nil, noMutA_cons, noMutA_app, noMutAll_ints, OP_mul, OP_fdiv, OP_mod, bop, add_i, add_l, add_t, add_s, sub_i, mul_tl, mul_ll, flat_one, pow_i, cop_lt, cop_le, cop_gt, cop_ge, cop_eq, cop_ne, cop_is, cop_isnt, isD_nn, isD_in, isD_tn, isD_ln, isD_fn, eqD_int, eqD_str, tru_b, tru_n, tru_i, tru_l, tru_t, isEmpty_map, List.isEmpty_nil, List.isEmpty_cons, enm_map, zip_map', blt, un, bi, len_l, len_t, abs_i, int_i, tup_l, tup_t, lst_l, lst_t, max2_i, min2_i, sum_li, sum_ti, idx_0t, idx_1t, idx_2t, idx_0l, idxl_last, isaD, isIntD, isBoolD, isTupD, isStrD, asgS, isNew, putS, svsOf, svOf, mutsOk, mutOk, inMut, rds, permL, Option.map_some, Option.map_none, List.map_cons, List.map_nil, List.getElem?_cons_zero, List.getElem?_cons_succ, List.set_cons_zero, List.set_cons_succ, List.length_cons, List.length_nil, List.length_map, List.length_range, List.append_nil, List.nil_append, List.cons_append, List.contains_cons, List.contains_nil, List.getD_cons_zero, List.getD_cons_succ, Nat.reduceBEq, Nat.reduceAdd, Nat.zero_add, Nat.reduceLeDiff, Nat.reduceLT, Int.reduceLT, Int.reduceLE, Int.reduceNeg, Bool.or_false, Bool.false_or, Bool.or_true, Bool.true_or, Bool.and_true, Bool.true_and, Bool.and_self, Bool.not_true, Bool.not_false, Bool.false_eq_true, reduceCtorEq, if_true, if_false, ite_true, ite_false, true_and, and_true, and_self, decide_true, decide_false, eq_self, ne_eq, not_false_eq_true, not_true_eq_false, lim, eqD_lnil (plainA_map plain_prI _), List.map_eq_nil_iff]
    cases hl : (busyP pre).getLast? with
    | none =>
      have h0 : busyP pre = [] := List.getLast?_eq_none_iff.mp hl
      simp only [↓OW_c_asg, ↓OW_c_par, ↓OW_c_asgt, ↓OW_c_exp, ↓OW_c_app, ↓OW_c_ext, ↓OW_c_popt, ↓OW_c_pmx, ↓OW_c_set, ↓OW_c_ret, ↓OW_c_retn, ↓OW_c_brk, ↓OW_c_cnt, ↓OW_c_pass, ↓OW_nil, ↓OW_asg, ↓OW_par, ↓OW_asgt, ↓OW_exp, ↓OW_app, ↓OW_ext, ↓OW_popt, ↓OW_pmx, ↓OW_set, ↓OW_ret, ↓OW_retn, ↓OW_ife, ↓OW_brk, ↓OW_cnt, ↓OW_pass, ↓OW_for, ↓OW_whl, ↓SM_nil, ↓SM_var, ↓SM_idx, ↓W_var, ↓W_lit, ↓W_bin, ↓W_neg, ↓W_cmp, ↓W_chn, ↓W_and, ↓W_or, ↓Wb_one, ↓Wb_and, ↓Wb_or, ↓W_not, ↓W_ite, ↓W_tup, ↓W_lst, ↓W_idx, ↓W_slc, ↓W_rev, ↓W_blt, ↓W_isa, ↓Ws_nil, ↓Ws_cons, ↓Wo_nil, ↓Wo_cons, ↓W_call0, ↓W_call1, ↓W_callk, ↓W_comp, ↓Wi_rng1, ↓Wi_rng2, ↓Wi_zp, ↓Wi_cons, ↓Wi_enm, ↓hOP, ↓hCB, ↓hSEQ, ↓hIN, ↓hENM, ↓hNG, ↓hRV, ↓hOL, ↓hLS, ↓hCall, ↓hCW, ↓hFW, ↓hWW, ↓BK, ↓seqQ_nx, ↓seqQ_rt, ↓seqQ_bk, ↓seqQ_ct, ↓seqQ_ex, ↓loopQ_nx, ↓loopQ_ct, ↓loopQ_bk, ↓loopQ_rt, ↓loopQ_ex, ↓retQ_nx, ↓retQ_rt, ↓retQ_ex, ↓exQ_seq, ↓exQ_ret, IsDk_dk, OPh_some, OPh_none, OPh_map, OPh_ite, CBh_true, CBh_false, CBh_not, CBh_and, CBh_or, NGh_int, INh_int, RVh_l, RVh_t, SEQh_l, SEQh_t, ENMh_1, ENMh_2, OLh_own, LSh_l, CWh_nil, getD_0d, getD_0o, getD_s, aft_t, aft_f, aft_nd, frzA_nil, frzA_d, frzA_u, frzA_k, frzA_o, frzA_no, frzI_1, frzI_2, frzI_c, frzI_e, frzI_z, bind_nm, bind_tp, fitTs_nil, fitTs_nm, fitTs_tp, setTs_nil, setTs_nm, setTs_tp, wipe_nil, wipe_cons, noMut_non, noMut_b, noMut_i, noMut_s, noMut_l, noMut_t, noMut_fr, noMutA_nil, noMutA_cons, noMutA_app, noMutAll_ints, OP_mul, OP_fdiv, OP_mod, bop, add_i, add_l, add_t, add_s, sub_i, mul_tl, mul_ll, flat_one, pow_i, cop_lt, cop_le, cop_gt, cop_ge, cop_eq, cop_ne, cop_is, cop_isnt, isD_nn, isD_in, isD_tn, isD_ln, isD_fn, eqD_int, eqD_str, tru_b, tru_n, tru_i, tru_l, tru_t, isEmpty_map, List.isEmpty_nil, List.isEmpty_cons, enm_map, zip_map', blt, un, bi, len_l, len_t, abs_i, int_i, tup_l, tup_t, lst_l, lst_t, max2_i, min2_i, sum_li, sum_ti, idx_0t, idx_1t, idx_2t, idx_0l, idxl_last, isaD, isIntD, isBoolD, isTupD, isStrD, asgS, isNew, putS, svsOf, svOf, mutsOk, mutOk, inMut, rds, permL, Option.map_some, Option.map_none, List.map_cons, List.map_nil, List.getElem?_cons_zero, List.getElem?_cons_succ, List.set_cons_zero, List.set_cons_succ, List.length_cons, List.length_nil, List.length_map, List.length_range, List.append_nil, List.nil_append, List.cons_append, List.contains_cons, List.contains_nil, List.getD_cons_zero, List.getD_cons_succ, Nat.reduceBEq, Nat.reduceAdd, Nat.zero_add, Nat.reduceLeDiff, Nat.reduceLT, Int.reduceLT, Int.reduceLE, Int.reduceNeg, Bool.or_false, Bool.false_or, Bool.or_true, Bool.true_or, Bool.and_true, Bool.true_and, Bool.and_self, Bool.not_true, Bool.not_false, Bool.false_eq_true, reduceCtorEq, if_true, if_false, ite_true, ite_false, true_and, and_true, and_self, decide_true, decide_false, eq_self, ne_eq, not_false_eq_true, not_true_eq_false, lim, h0]
      exact ⟨_, _, _, rfl⟩
    | some x =>
      obtain ⟨b, e'⟩ := x
      have hne : busyP pre ≠ [] := fun z => by rw [z] at hl; cases hl
      have hlp : 0 < (busyP pre).length := List.length_pos_iff.mpr hne
      simp only [↓OW_c_asg, ↓OW_c_par, ↓OW_c_asgt, ↓OW_c_exp, ↓OW_c_app, ↓OW_c_ext, ↓OW_c_popt, ↓OW_c_pmx, ↓OW_c_set, ↓OW_c_ret, ↓OW_c_retn, ↓OW_c_brk, ↓OW_c_cnt, ↓OW_c_pass, ↓OW_nil, ↓OW_asg, ↓OW_par, ↓OW_asgt, ↓OW_exp, ↓OW_app, ↓OW_ext, ↓OW_popt, ↓OW_pmx, ↓OW_set, ↓OW_ret, ↓OW_retn, ↓OW_ife, ↓OW_brk, ↓OW_cnt, ↓OW_pass, ↓OW_for, ↓OW_whl, ↓SM_nil, ↓SM_var, ↓SM_idx, ↓W_var, ↓W_lit, ↓W_bin, ↓W_neg, ↓W_cmp, ↓W_chn, ↓W_and, ↓W_or, ↓Wb_one, ↓Wb_and, ↓Wb_or, ↓W_not, ↓W_ite, ↓W_tup, ↓W_lst, ↓W_idx, ↓W_slc, ↓W_rev, ↓W_blt, ↓W_isa, ↓Ws_nil, ↓Ws_cons, ↓Wo_nil, ↓Wo_cons, ↓W_call0, ↓W_call1, ↓W_callk, ↓W_comp, ↓Wi_rng1, ↓Wi_rng2, ↓Wi_zp, ↓Wi_cons, ↓Wi_enm, ↓hOP, ↓hCB, ↓hSEQ, ↓hIN, ↓hENM, ↓hNG, ↓hRV, ↓hOL, ↓hLS, ↓hCall, ↓hCW, ↓hFW, ↓hWW, ↓BK, ↓seqQ_nx, ↓seqQ_rt, ↓seqQ_bk, ↓seqQ_ct, ↓seqQ_ex, ↓loopQ_nx, ↓loopQ_ct, ↓loopQ_bk, ↓loopQ_rt, ↓loopQ_ex, ↓retQ_nx, ↓retQ_rt, ↓retQ_ex, ↓exQ_seq, ↓exQ_ret, IsDk_dk, OPh_some, OPh_none, OPh_map, OPh_ite, CBh_true, CBh_false, CBh_not, CBh_and, CBh_or, NGh_int, INh_int, RVh_l, RVh_t, SEQh_l, SEQh_t, ENMh_1, ENMh_2, OLh_own, LSh_l, CWh_nil, getD_0d, getD_0o, getD_s, aft_t, aft_f, aft_nd, frzA_nil, frzA_d, frzA_u, frzA_k, frzA_o, frzA_no, frzI_1, frzI_2, frzI_c, frzI_e, frzI_z, bind_nm, bind_tp, fitTs_nil, fitTs_nm, fitTs_tp, setTs_nil, setTs_nm, setTs_tp, wipe_nil, wipe_cons, noMut_non, noMut_b, noMut_i, noMut_s, noMut_l, noMut_t, noMut_fr, noMutA_nil, noMutA_cons, noMutA_app, noMutAll_ints, OP_mul, OP_fdiv, OP_mod, bop, add_i, add_l, add_t, add_s, sub_i, mul_tl, mul_ll, flat_one, pow_i, cop_lt, cop_le, cop_gt, cop_ge, cop_eq, cop_ne, cop_is, cop_isnt, isD_nn, isD_in, isD_tn, isD_ln, isD_fn, eqD_int, eqD_str, tru_b, tru_n, tru_i, tru_l, tru_t, isEmpty_map, List.isEmpty_nil, List.isEmpty_cons, enm_map, zip_map', blt, un, bi, len_l, len_t, abs_i, int_i, tup_l, tup_t, lst_l, lst_t, max2_i, min2_i, sum_li, sum_ti, idx_0t, idx_1t, idx_2t, idx_0l, idxl_last, isaD, isIntD, isBoolD, isTupD, isStrD, asgS, isNew, putS, svsOf, svOf, mutsOk, mutOk, inMut, rds, permL, Option.map_some, Option.map_none, List.map_cons, List.map_nil, List.getElem?_cons_zero, List.getElem?_cons_succ, List.set_cons_zero, List.set_cons_succ, List.length_cons, List.length_nil, List.length_map, List.length_range, List.append_nil, List.nil_append, List.cons_append, List.contains_cons, List.contains_nil, List.getD_cons_zero, List.getD_cons_succ, Nat.reduceBEq, Nat.reduceAdd, Nat.zero_add, Nat.reduceLeDiff, Nat.reduceLT, Int.reduceLT, Int.reduceLE, Int.reduceNeg, Bool.or_false, Bool.false_or, Bool.or_true, Bool.true_or, Bool.and_true, Bool.true_and, Bool.and_self, Bool.not_true, Bool.not_false, Bool.false_eq_true, reduceCtorEq, if_true, if_false, ite_true, ite_false, true_and, and_true, and_self, decide_true, decide_false, eq_self, ne_eq, not_false_eq_true, not_true_eq_false, lim, hne, List.getLast?_map, hl, prI]
      refine CB_i' (fun h => ?_) (fun h => ?_)
      · simp only [↓OW_c_asg, ↓OW_c_par, ↓OW_c_asgt, ↓OW_c_exp, ↓OW_c_app, ↓OW_c_ext, ↓OW_c_popt, ↓OW_c_pmx, ↓OW_c_set, ↓OW_c_ret, ↓OW_c_retn, ↓OW_c_brk, ↓OW_c_cnt, ↓OW_c_pass, ↓OW_nil, ↓OW_asg, ↓OW_par, ↓OW_asgt, ↓OW_exp, ↓OW_app, ↓OW_ext, ↓OW_popt, ↓OW_pmx, ↓OW_set, ↓OW_ret, ↓OW_retn, ↓OW_ife, ↓OW_brk, ↓OW_cnt, ↓OW_pass, ↓OW_for, ↓OW_whl, ↓SM_nil, ↓SM_var, ↓SM_idx, ↓W_var, ↓W_lit, ↓W_bin, ↓W_neg, ↓W_cmp, ↓W_chn, ↓W_and, ↓W_or, ↓Wb_one, ↓Wb_and, ↓Wb_or, ↓W_not, ↓W_ite, ↓W_tup, ↓W_lst, ↓W_idx, ↓W_slc, ↓W_rev, ↓W_blt, ↓W_isa, ↓Ws_nil, ↓Ws_cons, ↓Wo_nil, ↓Wo_cons, ↓W_call0, ↓W_call1, ↓W_callk, ↓W_comp, ↓Wi_rng1, ↓Wi_rng2, ↓Wi_zp, ↓Wi_cons, ↓Wi_enm, ↓hOP, ↓hCB, ↓hSEQ, ↓hIN, ↓hENM, ↓hNG, ↓hRV, ↓hOL, ↓hLS, ↓hCall, ↓hCW, ↓hFW, ↓hWW, ↓BK, ↓seqQ_nx, ↓seqQ_rt, ↓seqQ_bk, ↓seqQ_ct, ↓seqQ_ex, ↓loopQ_nx, ↓loopQ_ct, ↓loopQ_bk, ↓loopQ_rt, ↓loopQ_ex, ↓retQ_nx, ↓retQ_rt, ↓retQ_ex, ↓exQ_seq, ↓exQ_ret, IsDk_dk, OPh_some, OPh_none, OPh_map, OPh_ite, CBh_true, CBh_false, CBh_not, CBh_and, CBh_or, NGh_int, INh_int, RVh_l, RVh_t, SEQh_l, SEQh_t, ENMh_1, ENMh_2, OLh_own, LSh_l, CWh_nil, getD_0d, getD_0o, getD_s, aft_t, aft_f, aft_nd, frzA_nil, frzA_d, frzA_u, frzA_k, frzA_o, frzA_no, frzI_1, frzI_2, frzI_c, frzI_e, frzI_z, bind_nm, bind_tp, fitTs_nil, fitTs_nm, fitTs_tp, setTs_nil, setTs_nm, setTs_tp, wipe_nil, wipe_cons, noMut_non, noMut_b, noMut_i, noMut_s, noMut_l, noMut_t, noMut_fr, noMutA_nil, noMutA_cons, noMutA_app, noMutAll_ints, OP_mul, OP_fdiv, OP_mod, bop, add_i, add_l, add_t, add_s, sub_i, mul_tl, mul_ll, flat_one, pow_i, cop_lt, cop_le, cop_gt, cop_ge, cop_eq, cop_ne, cop_is, cop_isnt, isD_nn, isD_in, isD_tn, isD_ln, isD_fn, eqD_int, eqD_str, tru_b, tru_n, tru_i, tru_l, tru_t, isEmpty_map, List.isEmpty_nil, List.isEmpty_cons, enm_map, zip_map', blt, un, bi, len_l, len_t, abs_i, int_i, tup_l, tup_t, lst_l, lst_t, max2_i, min2_i, sum_li, sum_ti, idx_0t, idx_1t, idx_2t, idx_0l, idxl_last, isaD, isIntD, isBoolD, isTupD, isStrD, asgS, isNew, putS, svsOf, svOf, mutsOk, mutOk, inMut, rds, permL, Option.map_some, Option.map_none, List.map_cons, List.map_nil, List.getElem?_cons_zero, List.getElem?_cons_succ, List.set_cons_zero, List.set_cons_succ, List.length_cons, List.length_nil, List.length_map, List.length_range, List.append_nil, List.nil_append, List.cons_append, List.contains_cons, List.contains_nil, List.getD_cons_zero, List.getD_cons_succ, Nat.reduceBEq, Nat.reduceAdd, Nat.zero_add, Nat.reduceLeDiff, Nat.reduceLT, Int.reduceLT, Int.reduceLE, Int.reduceNeg, Bool.or_false, Bool.false_or, Bool.or_true, Bool.true_or, Bool.and_true, Bool.true_and, Bool.and_self, Bool.not_true, Bool.not_false, Bool.false_eq_true, reduceCtorEq, if_true, if_false, ite_true, ite_false, true_and, and_true, and_self, decide_true, decide_false, eq_self, ne_eq, not_false_eq_true, not_true_eq_false, lim, List.getLast?_map, hl, prI]
        refine OPh_of (a := (busyP pre).length - 1) (by unfold ixN; rw [if_neg (by decide), if_pos (by omega)]; congr 1; omega) ?_
        walk_at "wp"
        have hm : (bstep (busyP pre) a.1 a.2.2).map prI = ((busyP pre).map prI).set ((busyP pre).length - 1) (.tuple [.int b, .int (e' + a.2.2)]) := by
          unfold bstep
          rw [hl]
          simp only [h, if_true]
          have e3 : (busyP pre).dropLast ++ [(b, e' + a.2.2)] = (busyP pre).set ((busyP pre).length - 1) (b, e' + a.2.2) := by
            obtain ⟨ys, y, hy⟩ : ∃ ys y, busyP pre = ys ++ [y] := ⟨_, _, (List.dropLast_concat_getLast hne).symm⟩
            rw [hy, List.dropLast_concat, List.length_append, List.length_singleton, Nat.add_sub_cancel, List.set_append_right _ _ (Nat.le_refl _), Nat.sub_self]
            rfl
          rw [e3, List.map_set]
          rfl
        rw [hm]
        exact ⟨_, _, _, rfl⟩
      · walk_at "wp"
        have hm : (bstep (busyP pre) a.1 a.2.2).map prI = (busyP pre).map prI ++ [.tuple [.int a.1, .int (a.1 + a.2.2)]] := by
          unfold bstep
          rw [hl]
          simp only [h, if_false, List.map_append]
          rfl
        rw [hm]
        exact ⟨by omega, _, _, _, rfl⟩
  · rintro τ g' ⟨rfl, s2, s3, s4, rfl⟩
    walk_at "wp"
    exact hk
end


set_option Elab.async false
set_option linter.all false
set_option maxRecDepth 100000
set_option maxHeartbeats 4000000

open PySem PySem.Spec PyProof.Rows L2 Slim

def top (i : Nat) : Stmt := PySem.Challenge.pw_fairqueue_k09_busy_stretches_whatever_th.main.body.getD i (.Pass ⟨0, 0, 0, 0⟩)
def kws : Str → List (List Str × List Nat) := fun f => if f = "busy" then [(["arrivals", "weights"], [1, 0])] else []
theorem c_is_whole : chks n_is_whole false kws (defScope (top 5)) t_is_whole (defBody (top 5)) = true := by decide +kernel
theorem s_is_whole : FnScope n_is_whole ["thing"] (defScope (top 5)) := scope_by (by decide +kernel)
theorem k_is_whole : kws "is_whole" = [] := by decide +kernel
theorem b_is_whole : Bnd "is_whole" (top 5) ["thing"] (kws "is_whole") 1 where
  pos := fun _ _ _ _ _ _ us hl => match us, hl with | [_], _ => rfl
  key := fun ks perm h => by
    rw [k_is_whole] at h
    exact (List.not_mem_nil h).elim
theorem c_is_from_one : chks n_is_from_one false kws (defScope (top 6)) t_is_from_one (defBody (top 6)) = true := by decide +kernel
theorem s_is_from_one : FnScope n_is_from_one ["thing"] (defScope (top 6)) := scope_by (by decide +kernel)
theorem k_is_from_one : kws "is_from_one" = [] := by decide +kernel
theorem b_is_from_one : Bnd "is_from_one" (top 6) ["thing"] (kws "is_from_one") 1 where
  pos := fun _ _ _ _ _ _ us hl => match us, hl with | [_], _ => rfl
  key := fun ks perm h => by
    rw [k_is_from_one] at h
    exact (List.not_mem_nil h).elim
theorem c_is_position : chks n_is_position false kws (defScope (top 7)) t_is_position (defBody (top 7)) = true := by decide +kernel
theorem s_is_position : FnScope n_is_position ["thing", "many"] (defScope (top 7)) := scope_by (by decide +kernel)
theorem k_is_position : kws "is_position" = [] := by decide +kernel
theorem b_is_position : Bnd "is_position" (top 7) ["thing", "many"] (kws "is_position") 2 where
  pos := fun _ _ _ _ _ _ us hl => match us, hl with | [_, _], _ => rfl
  key := fun ks perm h => by
    rw [k_is_position] at h
    exact (List.not_mem_nil h).elim
theorem c_do_not_descend : chks n_do_not_descend false kws (defScope (top 8)) t_do_not_descend (defBody (top 8)) = true := by decide +kernel
theorem s_do_not_descend : FnScope n_do_not_descend ["moments"] (defScope (top 8)) := scope_by (by decide +kernel)
theorem k_do_not_descend : kws "do_not_descend" = [] := by decide +kernel
theorem b_do_not_descend : Bnd "do_not_descend" (top 8) ["moments"] (kws "do_not_descend") 1 where
  pos := fun _ _ _ _ _ _ us hl => match us, hl with | [_], _ => rfl
  key := fun ks perm h => by
    rw [k_do_not_descend] at h
    exact (List.not_mem_nil h).elim
theorem c_is_weights : chks n_is_weights false kws (defScope (top 10)) t_is_weights (defBody (top 10)) = true := by decide +kernel
theorem s_is_weights : FnScope n_is_weights ["thing"] (defScope (top 10)) := scope_by (by decide +kernel)
theorem k_is_weights : kws "is_weights" = [] := by decide +kernel
theorem b_is_weights : Bnd "is_weights" (top 10) ["thing"] (kws "is_weights") 1 where
  pos := fun _ _ _ _ _ _ us hl => match us, hl with | [_], _ => rfl
  key := fun ks perm h => by
    rw [k_is_weights] at h
    exact (List.not_mem_nil h).elim
theorem c_is_flow : chks n_is_flow false kws (defScope (top 11)) t_is_flow (defBody (top 11)) = true := by decide +kernel
theorem s_is_flow : FnScope n_is_flow ["weights", "thing"] (defScope (top 11)) := scope_by (by decide +kernel)
theorem k_is_flow : kws "is_flow" = [] := by decide +kernel
theorem b_is_flow : Bnd "is_flow" (top 11) ["weights", "thing"] (kws "is_flow") 2 where
  pos := fun _ _ _ _ _ _ us hl => match us, hl with | [_, _], _ => rfl
  key := fun ks perm h => by
    rw [k_is_flow] at h
    exact (List.not_mem_nil h).elim
theorem c_is_flow_of_some : chks n_is_flow_of_some false kws (defScope (top 12)) t_is_flow_of_some (defBody (top 12)) = true := by decide +kernel
theorem s_is_flow_of_some : FnScope n_is_flow_of_some ["thing"] (defScope (top 12)) := scope_by (by decide +kernel)
theorem k_is_flow_of_some : kws "is_flow_of_some" = [] := by decide +kernel
theorem b_is_flow_of_some : Bnd "is_flow_of_some" (top 12) ["thing"] (kws "is_flow_of_some") 1 where
  pos := fun _ _ _ _ _ _ us hl => match us, hl with | [_], _ => rfl
  key := fun ks perm h => by
    rw [k_is_flow_of_some] at h
    exact (List.not_mem_nil h).elim
theorem c_is_packet_of_some : chks n_is_packet_of_some false kws (defScope (top 13)) t_is_packet_of_some (defBody (top 13)) = true := by decide +kernel
theorem s_is_packet_of_some : FnScope n_is_packet_of_some ["thing"] (defScope (top 13)) := scope_by (by decide +kernel)
theorem k_is_packet_of_some : kws "is_packet_of_some" = [] := by decide +kernel
theorem b_is_packet_of_some : Bnd "is_packet_of_some" (top 13) ["thing"] (kws "is_packet_of_some") 1 where
  pos := fun _ _ _ _ _ _ us hl => match us, hl with | [_], _ => rfl
  key := fun ks perm h => by
    rw [k_is_packet_of_some] at h
    exact (List.not_mem_nil h).elim
theorem c_is_arrivals_for_some : chks n_is_arrivals_for_some false kws (defScope (top 14)) t_is_arrivals_for_some (defBody (top 14)) = true := by decide +kernel
theorem s_is_arrivals_for_some : FnScope n_is_arrivals_for_some ["thing"] (defScope (top 14)) := scope_by (by decide +kernel)
theorem k_is_arrivals_for_some : kws "is_arrivals_for_some" = [] := by decide +kernel
theorem b_is_arrivals_for_some : Bnd "is_arrivals_for_some" (top 14) ["thing"] (kws "is_arrivals_for_some") 1 where
  pos := fun _ _ _ _ _ _ us hl => match us, hl with | [_], _ => rfl
  key := fun ks perm h => by
    rw [k_is_arrivals_for_some] at h
    exact (List.not_mem_nil h).elim
theorem c_is_arrivals : chks n_is_arrivals false kws (defScope (top 15)) t_is_arrivals (defBody (top 15)) = true := by decide +kernel
theorem s_is_arrivals : FnScope n_is_arrivals ["weights", "thing"] (defScope (top 15)) := scope_by (by decide +kernel)
theorem k_is_arrivals : kws "is_arrivals" = [] := by decide +kernel
theorem b_is_arrivals : Bnd "is_arrivals" (top 15) ["weights", "thing"] (kws "is_arrivals") 2 where
  pos := fun _ _ _ _ _ _ us hl => match us, hl with | [_, _], _ => rfl
  key := fun ks perm h => by
    rw [k_is_arrivals] at h
    exact (List.not_mem_nil h).elim
theorem c_check_weights : chks n_check_weights false kws (defScope (top 16)) t_check_weights (defBody (top 16)) = true := by decide +kernel
theorem s_check_weights : FnScope n_check_weights ["weights"] (defScope (top 16)) := scope_by (by decide +kernel)
theorem k_check_weights : kws "check_weights" = [] := by decide +kernel
theorem b_check_weights : Bnd "check_weights" (top 16) ["weights"] (kws "check_weights") 1 where
  pos := fun _ _ _ _ _ _ us hl => match us, hl with | [_], _ => rfl
  key := fun ks perm h => by
    rw [k_check_weights] at h
    exact (List.not_mem_nil h).elim
theorem c_check_arrivals : chks n_check_arrivals false kws (defScope (top 17)) t_check_arrivals (defBody (top 17)) = true := by decide +kernel
theorem s_check_arrivals : FnScope n_check_arrivals ["weights", "arrivals"] (defScope (top 17)) := scope_by (by decide +kernel)
theorem k_check_arrivals : kws "check_arrivals" = [] := by decide +kernel
theorem b_check_arrivals : Bnd "check_arrivals" (top 17) ["weights", "arrivals"] (kws "check_arrivals") 2 where
  pos := fun _ _ _ _ _ _ us hl => match us, hl with | [_, _], _ => rfl
  key := fun ks perm h => by
    rw [k_check_arrivals] at h
    exact (List.not_mem_nil h).elim
theorem c_busy : chks n_busy false kws (defScope (top 19)) t_busy (defBody (top 19)) = true := by decide +kernel
theorem s_busy : FnScope n_busy ["weights", "arrivals"] (defScope (top 19)) := scope_by (by decide +kernel)
theorem k_busy : kws "busy" = ([(["arrivals", "weights"], [1, 0])] : List (List Str × List Nat)) := by decide +kernel
theorem b_busy : Bnd "busy" (top 19) ["weights", "arrivals"] (kws "busy") 2 where
  pos := fun _ _ _ _ _ _ us hl => match us, hl with | [_, _], _ => rfl
  key := fun ks perm h => by
    rw [k_busy] at h
    simp only [List.mem_cons, List.not_mem_nil, or_false, Prod.mk.injEq] at h
    obtain ⟨rfl, rfl⟩ := h
    exact ⟨rfl, rfl, fun _ _ _ _ _ _ ws hl => match ws, hl with | [_, _], _ => rfl⟩
theorem s__law_deck : FnScope n__law_deck ["script"] (defScope (top 21)) := scope_by (by decide +kernel)
theorem k__law_deck : kws "_law_deck" = [] := by decide +kernel
theorem b__law_deck : Bnd "_law_deck" (top 21) ["script"] (kws "_law_deck") 1 where
  pos := fun _ _ _ _ _ _ us hl => match us, hl with | [_], _ => rfl
  key := fun ks perm h => by
    rw [k__law_deck] at h
    exact (List.not_mem_nil h).elim
theorem s__law_draw : FnScope n__law_draw ["deck", "many"] (defScope (top 22)) := scope_by (by decide +kernel)
theorem k__law_draw : kws "_law_draw" = [] := by decide +kernel
theorem b__law_draw : Bnd "_law_draw" (top 22) ["deck", "many"] (kws "_law_draw") 1 where
  pos := fun _ _ _ _ _ _ us hl => match us, hl with | [_, _], _ => rfl
  key := fun ks perm h => by
    rw [k__law_draw] at h
    exact (List.not_mem_nil h).elim
theorem c__law_pick : chks n__law_pick false kws (defScope (top 23)) t__law_pick (defBody (top 23)) = true := by decide +kernel
theorem s__law_pick : FnScope n__law_pick ["deck", "some"] (defScope (top 23)) := scope_by (by decide +kernel)
theorem k__law_pick : kws "_law_pick" = [] := by decide +kernel
theorem b__law_pick : Bnd "_law_pick" (top 23) ["deck", "some"] (kws "_law_pick") 1 where
  pos := fun _ _ _ _ _ _ us hl => match us, hl with | [_, _], _ => rfl
  key := fun ks perm h => by
    rw [k__law_pick] at h
    exact (List.not_mem_nil h).elim
theorem c__law_same : chks n__law_same false kws (defScope (top 24)) t__law_same (defBody (top 24)) = true := by decide +kernel
theorem s__law_same : FnScope n__law_same ["told", "due"] (defScope (top 24)) := scope_by (by decide +kernel)
theorem k__law_same : kws "_law_same" = [] := by decide +kernel
theorem b__law_same : Bnd "_law_same" (top 24) ["told", "due"] (kws "_law_same") 2 where
  pos := fun _ _ _ _ _ _ us hl => match us, hl with | [_, _], _ => rfl
  key := fun ks perm h => by
    rw [k__law_same] at h
    exact (List.not_mem_nil h).elim
theorem c__law_weights : chks n__law_weights false kws (defScope (top 25)) t__law_weights (defBody (top 25)) = true := by decide +kernel
theorem s__law_weights : FnScope n__law_weights ["deck"] (defScope (top 25)) := scope_by (by decide +kernel)
theorem k__law_weights : kws "_law_weights" = [] := by decide +kernel
theorem b__law_weights : Bnd "_law_weights" (top 25) ["deck"] (kws "_law_weights") 0 where
  pos := fun _ _ _ _ _ _ us hl => match us, hl with | [_], _ => rfl
  key := fun ks perm h => by
    rw [k__law_weights] at h
    exact (List.not_mem_nil h).elim
theorem c__law_length : chks n__law_length false kws (defScope (top 26)) t__law_length (defBody (top 26)) = true := by decide +kernel
theorem s__law_length : FnScope n__law_length ["deck", "way"] (defScope (top 26)) := scope_by (by decide +kernel)
theorem k__law_length : kws "_law_length" = [] := by decide +kernel
theorem b__law_length : Bnd "_law_length" (top 26) ["deck", "way"] (kws "_law_length") 1 where
  pos := fun _ _ _ _ _ _ us hl => match us, hl with | [_, _], _ => rfl
  key := fun ks perm h => by
    rw [k__law_length] at h
    exact (List.not_mem_nil h).elim
theorem c__law_arrivals : chks n__law_arrivals false kws (defScope (top 27)) t__law_arrivals (defBody (top 27)) = true := by decide +kernel
theorem s__law_arrivals : FnScope n__law_arrivals ["deck", "weights", "most"] (defScope (top 27)) := scope_by (by decide +kernel)
theorem k__law_arrivals : kws "_law_arrivals" = [] := by decide +kernel
theorem b__law_arrivals : Bnd "_law_arrivals" (top 27) ["deck", "weights", "most"] (kws "_law_arrivals") 2 where
  pos := fun _ _ _ _ _ _ us hl => match us, hl with | [_, _, _], _ => rfl
  key := fun ks perm h => by
    rw [k__law_arrivals] at h
    exact (List.not_mem_nil h).elim
theorem c__law_busy : chks n__law_busy false kws (defScope (top 28)) t__law_busy (defBody (top 28)) = true := by decide +kernel
theorem s__law_busy : FnScope n__law_busy ["arrivals"] (defScope (top 28)) := scope_by (by decide +kernel)
theorem k__law_busy : kws "_law_busy" = [] := by decide +kernel
theorem b__law_busy : Bnd "_law_busy" (top 28) ["arrivals"] (kws "_law_busy") 1 where
  pos := fun _ _ _ _ _ _ us hl => match us, hl with | [_], _ => rfl
  key := fun ks perm h => by
    rw [k__law_busy] at h
    exact (List.not_mem_nil h).elim
def n_law : List Str := ["script", "deck", "turn", "weights", "arrivals", "due", "other", "mixed", "late", "weight", "moment", "flow", "length"]
def t_law : Slim.S := (.cons (.for_ (.nm 2) (.rng1 (.lit (.int 4))) (.cons (.asg 3 (.call "_law_weights" (some 1) .nil)) (.cons (.asg 4 (.call "_law_arrivals" (some 1) (.cons (.var 3) (.cons (.lit (.int 12)) .nil)))) (.cons (.ife (.and (.cons (.cmp .eq (.var 2) (.lit (.int 3))) (.cons (.cmp .ne (.var 4) (.tup .nil)) .nil))) (.cons (.asg 4 (.slc (.var 4) .nil (.cons (.lit (.int 29)) .nil))) (.cons (.asg 8 (.blt .min2 (.cons (.lit (.int 2000)) (.cons (.bin .add (.idx (.idx (.call "_law_busy" none (.cons (.var 4) .nil)) (.neg (.lit (.int 1)))) (.lit (.int 1))) (.call "_law_pick" (some 1) (.cons (.tup (.cons (.lit (.int 0)) (.cons (.lit (.int 0)) (.cons (.lit (.int 1)) .nil)))) .nil))) .nil)))) (.cons (.asg 4 (.bin .add (.var 4) (.tup (.cons (.tup (.cons (.var 8) (.cons (.lit (.int 0)) (.cons (.bin .add (.lit (.int 1)) (.call "_law_draw" (some 1) (.cons (.lit (.int 5)) .nil))) .nil)))) .nil)))) .nil))) .nil) (.cons (.asg 5 (.call "_law_busy" none (.cons (.var 4) .nil))) (.cons (.ife (.not (.call "_law_same" none (.cons (.tup (.cons (.call "busy" none (.cons (.var 3) (.cons (.var 4) .nil))) (.cons (.callk "busy" ["arrivals", "weights"] [1, 0] (.cons (.var 4) (.cons (.var 3) .nil))) .nil))) (.cons (.tup (.cons (.var 5) (.cons (.var 5) .nil))) .nil)))) (.cons (.ret (.lit (.bool false))) .nil) .nil) (.cons (.asg 6 (.blt .tuple (.cons (.comp [9] (.nm 9) (.cons (.var 3) .nil) (.lit (.bool true)) (.bin .add (.lit (.int 1)) (.call "_law_draw" (some 1) (.cons (.lit (.int 12)) .nil)))) .nil))) (.cons (.ife (.not (.call "_law_same" none (.cons (.call "busy" none (.cons (.var 6) (.cons (.var 4) .nil))) (.cons (.var 5) .nil)))) (.cons (.ret (.lit (.bool false))) .nil) .nil) (.cons (.asg 7 (.blt .tuple (.cons (.comp [10, 11, 12] (.tp (.cons (.nm 10) (.cons (.nm 11) (.cons (.nm 12) .nil)))) (.cons (.var 4) .nil) (.lit (.bool true)) (.tup (.cons (.var 10) (.cons (.call "_law_draw" (some 1) (.cons (.blt .len (.cons (.var 3) .nil)) .nil)) (.cons (.var 12) .nil))))) .nil))) (.cons (.ife (.not (.call "_law_same" none (.cons (.call "busy" none (.cons (.var 3) (.cons (.var 7) .nil))) (.cons (.var 5) .nil)))) (.cons (.ret (.lit (.bool false))) .nil) .nil) .nil)))))))))) (.cons (.ret (.lit (.bool true))) .nil))
theorem c_law : topB n_law false kws (defScope (top 29)) t_law (defBody (top 29)) = true := by decide +kernel
theorem s_law : FnScope n_law ["script"] (defScope (top 29)) := scope_by (by decide +kernel)
theorem k_law : kws "law" = [] := by decide +kernel
theorem b_law : Bnd "law" (top 29) ["script"] (kws "law") 1 where
  pos := fun _ _ _ _ _ _ us hl => match us, hl with | [_], _ => rfl
  key := fun ks perm h => by
    rw [k_law] at h
    exact (List.not_mem_nil h).elim


set_option Elab.async false
set_option linter.all false
set_option maxRecDepth 100000
set_option maxHeartbeats 4000000
/-! k09: the law's own def. -/

open PySem PySem.Spec PyProof.Rows L2 Slim
section
variable {D : DK} {K : PySem.W.Frag}
theorem law_run (T : Tab (deckGS D K)) (n : Nat) (hw : Sp T "_law_weights" true PWeights) (ha : Sp T "_law_arrivals" true PArrivals) (hp : Sp T "_law_pick" true PPick) (hd : Sp T "_law_draw" true PDraw) (hb : Sp T "busy" false PBusy) (hlb : Sp T "_law_busy" false PLBusy)
    (hsm : Sp T "_law_same" false PSame) (g : (deckGS D K).G) (hg : few g) : ∃ g', Slim.run T n t_law (top0 n_law) g = .rt (.bool true) g' := by
  apply top_of
  show OW T n t_law [.un, .dk, .un, .un, .un, .un, .un, .un, .un, .un, .un, .un, .un] g topQ
  unfold t_law
  rw [OW_cons]
  walk_at "wp"
  refine ⟨by decide, by decide, FWh_inv (I := fun _ _ τ (g : (deckGS D K).G) => few g ∧ ∃ s2 s3 s4 s5 s6 s7 s8 s9 s10 s11 s12, τ = [.un, .dk, s2, s3, s4, s5, s6, s7, s8, s9, s10, s11, s12]) ⟨hg, _, _, _, _, _, _, _, _, _, _, _, rfl⟩ ?_ ?_⟩
  · clear hg
    rintro pre a post τ g _ ⟨hg, s2, s3, s4, s5, s6, s7, s8, s9, s10, s11, s12, rfl⟩
    walk_at "wp"
    (refine ⟨Sp.has (by assumption), ?_⟩)
    refine hw.callH ⟨rfl, hg, fun ws g hws hg => ?_⟩
    walk_at "wp"
    (refine ⟨Sp.has (by assumption), ?_⟩)
    refine ha.callH ⟨_, _, rfl, hws, by decide, by decide, hg, fun ps g hps hg => ?_⟩
    walk_at "wp"
    have hpos := List.length_pos_iff.mpr hws.1
    have hws8 := hws.2.1
    refine OW_cut (fun τ (g : (deckGS D K).G) => few g ∧ ∃ ps s8, okA ws.length ps ∧ τ = [.un, .dk, .dat (.int (a : Nat)), .dat (wD ws), .dat (pD ps), s5, s6, s7, s8, s9, s10, s11, s12]) ?_ ?_
    · simp only [↓OW_c_asg, ↓OW_c_par, ↓OW_c_asgt, ↓OW_c_exp, ↓OW_c_app, ↓OW_c_ext, ↓OW_c_popt, ↓OW_c_pmx, ↓OW_c_set, ↓OW_c_ret, ↓OW_c_retn, ↓OW_c_brk, ↓OW_c_cnt, ↓OW_c_pass, ↓OW_nil, ↓OW_asg, ↓OW_par, ↓OW_asgt, ↓OW_exp, ↓OW_app, ↓OW_ext, ↓OW_popt, ↓OW_pmx, ↓OW_set, ↓OW_ret, ↓OW_retn, ↓OW_ife, ↓OW_brk, ↓OW_cnt, ↓OW_pass, ↓OW_for, ↓OW_whl, ↓SM_nil, ↓SM_var, ↓SM_idx, ↓W_var, ↓W_lit, ↓W_bin, ↓W_neg, ↓W_cmp, ↓W_chn, ↓W_and, ↓W_or, ↓Wb_one, ↓Wb_and, ↓Wb_or, ↓W_not, ↓W_ite, ↓W_tup, ↓W_lst, ↓W_idx, ↓W_slc, ↓W_rev, ↓W_blt, ↓W_isa, ↓Ws_nil, ↓Ws_cons, ↓Wo_nil, ↓Wo_cons, ↓W_call0, ↓W_call1, ↓W_callk, ↓W_comp, ↓Wi_rng1, ↓Wi_rng2, ↓Wi_zp, ↓Wi_cons, ↓Wi_enm, ↓hOP, ↓hCB, ↓hSEQ, ↓hIN, ↓hENM, ↓hNG, ↓hRV, ↓hOL, ↓hLS, ↓hCall, ↓hCW, ↓hFW, ↓hWW, ↓BK, ↓seqQ_nx, ↓seqQ_rt, ↓seqQ_bk, ↓seqQ_ct, ↓seqQ_ex, ↓loopQ_nx, ↓loopQ_ct, ↓loopQ_bk, ↓loopQ_rt, ↓loopQ_ex, ↓retQ_nx, ↓retQ_rt, ↓retQ_ex, ↓exQ_seq, ↓exQ_ret, IsDk_dk, OPh_some, OPh_none, OPh_map, OPh_ite, CBh_true, CBh_false, CBh_not, CBh_and, CBh_or, NGh_int, INh_int, RVh_l, RVh_t, SEQh_l, SEQh_t, ENMh_1, ENMh_2, OLh_own, LSh_l, CWh_nil, getD_0d, getD_0o, getD_s, aft_t, aft_f, aft_nd, frzA_nil, frzA_d, frzA_u, frzA_k, frzA_o, frzA_no, frzI_1, frzI_2, frzI_c, frzI_e, frzI_z, bind_nm, bind_tp, fitTs_nil, fitTs_nm, fitTs_tp, setTs_nil, setTs_nm, setTs_tp, wipe_nil, wipe_cons, noMut_non, noMut_b, noMut_i, noMut_s, noMut_l, noMut_t, noMut_fr, noMutA_nil, noMutA_cons, noMutA_app, noMutAll_ints, OP_mul, OP_fdiv, OP_mod, bop, add_i, add_l, add_t, add_s, sub_i, mul_tl, mul_ll, flat_one, pow_i, cop_lt, cop_le, cop_gt, cop_ge, cop_eq, cop_ne, cop_is, cop_isnt, isD_nn, isD_in, isD_tn, isD_ln, isD_fn, eqD_int, eqD_str, tru_b, tru_n, tru_i, tru_l, tru_t, isEmpty_map, List.isEmpty_nil, List.isEmpty_cons, enm_map, zip_map', blt, un, bi, len_l, len_t, abs_i, int_i, tup_l, tup_t, lst_l, lst_t, max2_i, min2_i, sum_li, sum_ti, idx_0t, idx_1t, idx_2t, idx_0l, idxl_last, isaD, isIntD, isBoolD, isTupD, isStrD, asgS, isNew, putS, svsOf, svOf, mutsOk, mutOk, inMut, rds, permL, Option.map_some, Option.map_none, List.map_cons, List.map_nil, List.getElem?_cons_zero, List.getElem?_cons_succ, List.set_cons_zero, List.set_cons_succ, List.length_cons, List.length_nil, List.length_map, List.length_range, List.append_nil, List.nil_append, List.cons_append, List.contains_cons, List.contains_nil, List.getD_cons_zero, List.getD_cons_succ, Nat.reduceBEq, Nat.reduceAdd, Nat.zero_add, Nat.reduceLeDiff, Nat.reduceLT, Int.reduceLT, Int.reduceLE, Int.reduceNeg, Bool.or_false, Bool.false_or, Bool.or_true, Bool.true_or, Bool.and_true, Bool.true_and, Bool.and_self, Bool.not_true, Bool.not_false, Bool.false_eq_true, reduceCtorEq, if_true, if_false, ite_true, ite_false, true_and, and_true, and_self, decide_true, decide_false, eq_self, ne_eq, not_false_eq_true, not_true_eq_false, lim, eqD_tnil (plainA_map plain_pk _), List.map_eq_nil_iff]
      refine CB_i' (fun h => ?_) (fun h => ?_)
      · simp only [↓OW_c_asg, ↓OW_c_par, ↓OW_c_asgt, ↓OW_c_exp, ↓OW_c_app, ↓OW_c_ext, ↓OW_c_popt, ↓OW_c_pmx, ↓OW_c_set, ↓OW_c_ret, ↓OW_c_retn, ↓OW_c_brk, ↓OW_c_cnt, ↓OW_c_pass, ↓OW_nil, ↓OW_asg, ↓OW_par, ↓OW_asgt, ↓OW_exp, ↓OW_app, ↓OW_ext, ↓OW_popt, ↓OW_pmx, ↓OW_set, ↓OW_ret, ↓OW_retn, ↓OW_ife, ↓OW_brk, ↓OW_cnt, ↓OW_pass, ↓OW_for, ↓OW_whl, ↓SM_nil, ↓SM_var, ↓SM_idx, ↓W_var, ↓W_lit, ↓W_bin, ↓W_neg, ↓W_cmp, ↓W_chn, ↓W_and, ↓W_or, ↓Wb_one, ↓Wb_and, ↓Wb_or, ↓W_not, ↓W_ite, ↓W_tup, ↓W_lst, ↓W_idx, ↓W_slc, ↓W_rev, ↓W_blt, ↓W_isa, ↓Ws_nil, ↓Ws_cons, ↓Wo_nil, ↓Wo_cons, ↓W_call0, ↓W_call1, ↓W_callk, ↓W_comp, ↓Wi_rng1, ↓Wi_rng2, ↓Wi_zp, ↓Wi_cons, ↓Wi_enm, ↓hOP, ↓hCB, ↓hSEQ, ↓hIN, ↓hENM, ↓hNG, ↓hRV, ↓hOL, ↓hLS, ↓hCall, ↓hCW, ↓hFW, ↓hWW, ↓BK, ↓seqQ_nx, ↓seqQ_rt, ↓seqQ_bk, ↓seqQ_ct, ↓seqQ_ex, ↓loopQ_nx, ↓loopQ_ct, ↓loopQ_bk, ↓loopQ_rt, ↓loopQ_ex, ↓retQ_nx, ↓retQ_rt, ↓retQ_ex, ↓exQ_seq, ↓exQ_ret, IsDk_dk, OPh_some, OPh_none, OPh_map, OPh_ite, CBh_true, CBh_false, CBh_not, CBh_and, CBh_or, NGh_int, INh_int, RVh_l, RVh_t, SEQh_l, SEQh_t, ENMh_1, ENMh_2, OLh_own, LSh_l, CWh_nil, getD_0d, getD_0o, getD_s, aft_t, aft_f, aft_nd, frzA_nil, frzA_d, frzA_u, frzA_k, frzA_o, frzA_no, frzI_1, frzI_2, frzI_c, frzI_e, frzI_z, bind_nm, bind_tp, fitTs_nil, fitTs_nm, fitTs_tp, setTs_nil, setTs_nm, setTs_tp, wipe_nil, wipe_cons, noMut_non, noMut_b, noMut_i, noMut_s, noMut_l, noMut_t, noMut_fr, noMutA_nil, noMutA_cons, noMutA_app, noMutAll_ints, OP_mul, OP_fdiv, OP_mod, bop, add_i, add_l, add_t, add_s, sub_i, mul_tl, mul_ll, flat_one, pow_i, cop_lt, cop_le, cop_gt, cop_ge, cop_eq, cop_ne, cop_is, cop_isnt, isD_nn, isD_in, isD_tn, isD_ln, isD_fn, eqD_int, eqD_str, tru_b, tru_n, tru_i, tru_l, tru_t, isEmpty_map, List.isEmpty_nil, List.isEmpty_cons, enm_map, zip_map', blt, un, bi, len_l, len_t, abs_i, int_i, tup_l, tup_t, lst_l, lst_t, max2_i, min2_i, sum_li, sum_ti, idx_0t, idx_1t, idx_2t, idx_0l, idxl_last, isaD, isIntD, isBoolD, isTupD, isStrD, asgS, isNew, putS, svsOf, svOf, mutsOk, mutOk, inMut, rds, permL, Option.map_some, Option.map_none, List.map_cons, List.map_nil, List.getElem?_cons_zero, List.getElem?_cons_succ, List.set_cons_zero, List.set_cons_succ, List.length_cons, List.length_nil, List.length_map, List.length_range, List.append_nil, List.nil_append, List.cons_append, List.contains_cons, List.contains_nil, List.getD_cons_zero, List.getD_cons_succ, Nat.reduceBEq, Nat.reduceAdd, Nat.zero_add, Nat.reduceLeDiff, Nat.reduceLT, Int.reduceLT, Int.reduceLE, Int.reduceNeg, Bool.or_false, Bool.false_or, Bool.or_true, Bool.true_or, Bool.and_true, Bool.true_and, Bool.and_self, Bool.not_true, Bool.not_false, Bool.false_eq_true, reduceCtorEq, if_true, if_false, ite_true, ite_false, true_and, and_true, and_self, decide_true, decide_false, eq_self, ne_eq, not_false_eq_true, not_true_eq_false, lim, eqD_tnil (plainA_map plain_pk _), List.map_eq_nil_iff]
        refine CB_i' (fun h' => ?_) (fun h' => ?_)
        · walk_at "wp"
          exact ⟨hg, ps, _, hps, rfl⟩
        · have hps' := hps.take 29
          have hl29 : (ps.take 29).length ≤ 29 := by rw [List.length_take]; omega
          simp only [↓OW_c_asg, ↓OW_c_par, ↓OW_c_asgt, ↓OW_c_exp, ↓OW_c_app, ↓OW_c_ext, ↓OW_c_popt, ↓OW_c_pmx, ↓OW_c_set, ↓OW_c_ret, ↓OW_c_retn, ↓OW_c_brk, ↓OW_c_cnt, ↓OW_c_pass, ↓OW_nil, ↓OW_asg, ↓OW_par, ↓OW_asgt, ↓OW_exp, ↓OW_app, ↓OW_ext, ↓OW_popt, ↓OW_pmx, ↓OW_set, ↓OW_ret, ↓OW_retn, ↓OW_ife, ↓OW_brk, ↓OW_cnt, ↓OW_pass, ↓OW_for, ↓OW_whl, ↓SM_nil, ↓SM_var, ↓SM_idx, ↓W_var, ↓W_lit, ↓W_bin, ↓W_neg, ↓W_cmp, ↓W_chn, ↓W_and, ↓W_or, ↓Wb_one, ↓Wb_and, ↓Wb_or, ↓W_not, ↓W_ite, ↓W_tup, ↓W_lst, ↓W_idx, ↓W_slc, ↓W_rev, ↓W_blt, ↓W_isa, ↓Ws_nil, ↓Ws_cons, ↓Wo_nil, ↓Wo_cons, ↓W_call0, ↓W_call1, ↓W_callk, ↓W_comp, ↓Wi_rng1, ↓Wi_rng2, ↓Wi_zp, ↓Wi_cons, ↓Wi_enm, ↓hOP, ↓hCB, ↓hSEQ, ↓hIN, ↓hENM, ↓hNG, ↓hRV, ↓hOL, ↓hLS, ↓hCall, ↓hCW, ↓hFW, ↓hWW, ↓BK, ↓seqQ_nx, ↓seqQ_rt, ↓seqQ_bk, ↓seqQ_ct, ↓seqQ_ex, ↓loopQ_nx, ↓loopQ_ct, ↓loopQ_bk, ↓loopQ_rt, ↓loopQ_ex, ↓retQ_nx, ↓retQ_rt, ↓retQ_ex, ↓exQ_seq, ↓exQ_ret, IsDk_dk, OPh_some, OPh_none, OPh_map, OPh_ite, CBh_true, CBh_false, CBh_not, CBh_and, CBh_or, NGh_int, INh_int, RVh_l, RVh_t, SEQh_l, SEQh_t, ENMh_1, ENMh_2, OLh_own, LSh_l, CWh_nil, getD_0d, getD_0o, getD_s, aft_t, aft_f, aft_nd, frzA_nil, frzA_d, frzA_u, frzA_k, frzA_o, frzA_no, frzI_1, frzI_2, frzI_c, frzI_e, frzI_z, bind_nm, bind_tp, fitTs_nil, fitTs_nm, fitTs_tp, setTs_nil, setTs_nm, setTs_tp, wipe_nil, wipe_cons, noMut_non, noMut_b, noMut_i, noMut_s, noMut_l, noMut_t, noMut_fr, noMutA_nil, noMutA_cons, noMutA_app, noMutAll_ints, OP_mul, OP_fdiv, OP_mod, bop, add_i, add_l, add_t, add_s, sub_i, mul_tl, mul_ll, flat_one, pow_i, cop_lt, cop_le, cop_gt, cop_ge, cop_eq, cop_ne, cop_is, cop_isnt, isD_nn, isD_in, isD_tn, isD_ln, isD_fn, eqD_int, eqD_str, tru_b, tru_n, tru_i, tru_l, tru_t, isEmpty_map, List.isEmpty_nil, List.isEmpty_cons, enm_map, zip_map', blt, un, bi, len_l, len_t, abs_i, int_i, tup_l, tup_t, lst_l, lst_t, max2_i, min2_i, sum_li, sum_ti, idx_0t, idx_1t, idx_2t, idx_0l, idxl_last, isaD, isIntD, isBoolD, isTupD, isStrD, asgS, isNew, putS, svsOf, svOf, mutsOk, mutOk, inMut, rds, permL, Option.map_some, Option.map_none, List.map_cons, List.map_nil, List.getElem?_cons_zero, List.getElem?_cons_succ, List.set_cons_zero, List.set_cons_succ, List.length_cons, List.length_nil, List.length_map, List.length_range, List.append_nil, List.nil_append, List.cons_append, List.contains_cons, List.contains_nil, List.getD_cons_zero, List.getD_cons_succ, Nat.reduceBEq, Nat.reduceAdd, Nat.zero_add, Nat.reduceLeDiff, Nat.reduceLT, Int.reduceLT, Int.reduceLE, Int.reduceNeg, Bool.or_false, Bool.false_or, Bool.or_true, Bool.true_or, Bool.and_true, Bool.true_and, Bool.and_self, Bool.not_true, Bool.not_false, Bool.false_eq_true, reduceCtorEq, if_true, if_false, ite_true, ite_false, true_and, and_true, and_self, decide_true, decide_false, eq_self, ne_eq, not_false_eq_true, not_true_eq_false, lim, show ((29 : Int)) = ((29 : Nat) : Int) from rfl, slc_take, map_take_pk]
          (refine ⟨Sp.has (by assumption), ?_⟩)
          refine hlb.callH ⟨ps.take 29, rfl, by omega, ?_⟩
          obtain ⟨b1, b2, b3⟩ := busyP_ok hps'
          obtain ⟨q, hq, hq2⟩ := b3 (fun z => h' (List.length_eq_zero_iff.mp (by have := congrArg List.length z; rw [List.length_take, List.length_nil] at this; omega)))
          have hqm := (b1 q (List.mem_of_getLast? hq)).2
          walk_at "wp"
          rw [show idxD (.tuple ((busyP (ps.take 29)).map prI)) (.int (-1)) = some (prI q) by
            have := idxl_last (xs := (busyP (ps.take 29)).map prI)
            rw [List.getLast?_map, hq] at this
            exact this]
          unfold prI
          walk_at "wp"
          (refine ⟨Sp.has (by assumption), ?_⟩)
          refine hp.pickI 0 1 (by simp [AllI]) (by simp) hg fun v g v0 v1 hg => ?_
          walk_at "wp"
          (refine ⟨Sp.has (by assumption), ?_⟩)
          refine hd.draw (by decide) (by decide) hg fun l g l0 l1 hg => ?_
          walk_at "wp"
          have e4 : (ps.take 29 ++ [(if q.2 + v < 2000 then q.2 + v else 2000, 0, 1 + l)]).map pk = (ps.take 29).map pk ++ [.tuple [.int (if q.2 + v < 2000 then q.2 + v else 2000), .int 0, .int (1 + l)]] := by
            rw [List.map_append]
            rfl
          rw [← e4]
          exact ⟨by omega, hg, _, _, hps'.snoc hl29 (by split <;> omega) (by split <;> omega) (fun p hp => by have := hq2 p hp; have := hps'.mom p hp; split <;> omega) ⟨by omega, by omega⟩ ⟨by omega, by omega⟩, rfl⟩
      · simp only [↓OW_c_asg, ↓OW_c_par, ↓OW_c_asgt, ↓OW_c_exp, ↓OW_c_app, ↓OW_c_ext, ↓OW_c_popt, ↓OW_c_pmx, ↓OW_c_set, ↓OW_c_ret, ↓OW_c_retn, ↓OW_c_brk, ↓OW_c_cnt, ↓OW_c_pass, ↓OW_nil, ↓OW_asg, ↓OW_par, ↓OW_asgt, ↓OW_exp, ↓OW_app, ↓OW_ext, ↓OW_popt, ↓OW_pmx, ↓OW_set, ↓OW_ret, ↓OW_retn, ↓OW_ife, ↓OW_brk, ↓OW_cnt, ↓OW_pass, ↓OW_for, ↓OW_whl, ↓SM_nil, ↓SM_var, ↓SM_idx, ↓W_var, ↓W_lit, ↓W_bin, ↓W_neg, ↓W_cmp, ↓W_chn, ↓W_and, ↓W_or, ↓Wb_one, ↓Wb_and, ↓Wb_or, ↓W_not, ↓W_ite, ↓W_tup, ↓W_lst, ↓W_idx, ↓W_slc, ↓W_rev, ↓W_blt, ↓W_isa, ↓Ws_nil, ↓Ws_cons, ↓Wo_nil, ↓Wo_cons, ↓W_call0, ↓W_call1, ↓W_callk, ↓W_comp, ↓Wi_rng1, ↓Wi_rng2, ↓Wi_zp, ↓Wi_cons, ↓Wi_enm, ↓hOP, ↓hCB, ↓hSEQ, ↓hIN, ↓hENM, ↓hNG, ↓hRV, ↓hOL, ↓hLS, ↓hCall, ↓hCW, ↓hFW, ↓hWW, ↓BK, ↓seqQ_nx, ↓seqQ_rt, ↓seqQ_bk, ↓seqQ_ct, ↓seqQ_ex, ↓loopQ_nx, ↓loopQ_ct, ↓loopQ_bk, ↓loopQ_rt, ↓loopQ_ex, ↓retQ_nx, ↓retQ_rt, ↓retQ_ex, ↓exQ_seq, ↓exQ_ret, IsDk_dk, OPh_some, OPh_none, OPh_map, OPh_ite, CBh_true, CBh_false, CBh_not, CBh_and, CBh_or, NGh_int, INh_int, RVh_l, RVh_t, SEQh_l, SEQh_t, ENMh_1, ENMh_2, OLh_own, LSh_l, CWh_nil, getD_0d, getD_0o, getD_s, aft_t, aft_f, aft_nd, frzA_nil, frzA_d, frzA_u, frzA_k, frzA_o, frzA_no, frzI_1, frzI_2, frzI_c, frzI_e, frzI_z, bind_nm, bind_tp, fitTs_nil, fitTs_nm, fitTs_tp, setTs_nil, setTs_nm, setTs_tp, wipe_nil, wipe_cons, noMut_non, noMut_b, noMut_i, noMut_s, noMut_l, noMut_t, noMut_fr, noMutA_nil, noMutA_cons, noMutA_app, noMutAll_ints, OP_mul, OP_fdiv, OP_mod, bop, add_i, add_l, add_t, add_s, sub_i, mul_tl, mul_ll, flat_one, pow_i, cop_lt, cop_le, cop_gt, cop_ge, cop_eq, cop_ne, cop_is, cop_isnt, isD_nn, isD_in, isD_tn, isD_ln, isD_fn, eqD_int, eqD_str, tru_b, tru_n, tru_i, tru_l, tru_t, isEmpty_map, List.isEmpty_nil, List.isEmpty_cons, enm_map, zip_map', blt, un, bi, len_l, len_t, abs_i, int_i, tup_l, tup_t, lst_l, lst_t, max2_i, min2_i, sum_li, sum_ti, idx_0t, idx_1t, idx_2t, idx_0l, idxl_last, isaD, isIntD, isBoolD, isTupD, isStrD, asgS, isNew, putS, svsOf, svOf, mutsOk, mutOk, inMut, rds, permL, Option.map_some, Option.map_none, List.map_cons, List.map_nil, List.getElem?_cons_zero, List.getElem?_cons_succ, List.set_cons_zero, List.set_cons_succ, List.length_cons, List.length_nil, List.length_map, List.length_range, List.append_nil, List.nil_append, List.cons_append, List.contains_cons, List.contains_nil, List.getD_cons_zero, List.getD_cons_succ, Nat.reduceBEq, Nat.reduceAdd, Nat.zero_add, Nat.reduceLeDiff, Nat.reduceLT, Int.reduceLT, Int.reduceLE, Int.reduceNeg, Bool.or_false, Bool.false_or, Bool.or_true, Bool.true_or, Bool.and_true, Bool.true_and, Bool.and_self, Bool.not_true, Bool.not_false, Bool.false_eq_true, reduceCtorEq, if_true, if_false, ite_true, ite_false, true_and, and_true, and_self, decide_true, decide_false, eq_self, ne_eq, not_false_eq_true, not_true_eq_false, lim, h]
        exact ⟨hg, ps, _, hps, rfl⟩
    clear hg
    rintro τ g ⟨hg, ps, s8, hps, rfl⟩
    have hlen := hps.len
    have hsb := sh_busy hps
    walk_at "wp"
    (refine ⟨Sp.has (by assumption), ?_⟩)
    refine hlb.callH ⟨ps, rfl, by omega, ?_⟩
    simp only [↓OW_c_asg, ↓OW_c_par, ↓OW_c_asgt, ↓OW_c_exp, ↓OW_c_app, ↓OW_c_ext, ↓OW_c_popt, ↓OW_c_pmx, ↓OW_c_set, ↓OW_c_ret, ↓OW_c_retn, ↓OW_c_brk, ↓OW_c_cnt, ↓OW_c_pass, ↓OW_nil, ↓OW_asg, ↓OW_par, ↓OW_asgt, ↓OW_exp, ↓OW_app, ↓OW_ext, ↓OW_popt, ↓OW_pmx, ↓OW_set, ↓OW_ret, ↓OW_retn, ↓OW_ife, ↓OW_brk, ↓OW_cnt, ↓OW_pass, ↓OW_for, ↓OW_whl, ↓SM_nil, ↓SM_var, ↓SM_idx, ↓W_var, ↓W_lit, ↓W_bin, ↓W_neg, ↓W_cmp, ↓W_chn, ↓W_and, ↓W_or, ↓Wb_one, ↓Wb_and, ↓Wb_or, ↓W_not, ↓W_ite, ↓W_tup, ↓W_lst, ↓W_idx, ↓W_slc, ↓W_rev, ↓W_blt, ↓W_isa, ↓Ws_nil, ↓Ws_cons, ↓Wo_nil, ↓Wo_cons, ↓W_call0, ↓W_call1, ↓W_callk, ↓W_comp, ↓Wi_rng1, ↓Wi_rng2, ↓Wi_zp, ↓Wi_cons, ↓Wi_enm, ↓hOP, ↓hCB, ↓hSEQ, ↓hIN, ↓hENM, ↓hNG, ↓hRV, ↓hOL, ↓hLS, ↓hCall, ↓hCW, ↓hFW, ↓hWW, ↓BK, ↓seqQ_nx, ↓seqQ_rt, ↓seqQ_bk, ↓seqQ_ct, ↓seqQ_ex, ↓loopQ_nx, ↓loopQ_ct, ↓loopQ_bk, ↓loopQ_rt, ↓loopQ_ex, ↓retQ_nx, ↓retQ_rt, ↓retQ_ex, ↓exQ_seq, ↓exQ_ret, IsDk_dk, OPh_some, OPh_none, OPh_map, OPh_ite, CBh_true, CBh_false, CBh_not, CBh_and, CBh_or, NGh_int, INh_int, RVh_l, RVh_t, SEQh_l, SEQh_t, ENMh_1, ENMh_2, OLh_own, LSh_l, CWh_nil, getD_0d, getD_0o, getD_s, aft_t, aft_f, aft_nd, frzA_nil, frzA_d, frzA_u, frzA_k, frzA_o, frzA_no, frzI_1, frzI_2, frzI_c, frzI_e, frzI_z, bind_nm, bind_tp, fitTs_nil, fitTs_nm, fitTs_tp, setTs_nil, setTs_nm, setTs_tp, wipe_nil, wipe_cons, noMut_non, noMut_b, noMut_i, noMut_s, noMut_l, noMut_t, noMut_fr, noMutA_nil, noMutA_cons, noMutA_app, noMutAll_ints, OP_mul, OP_fdiv, OP_mod, bop, add_i, add_l, add_t, add_s, sub_i, mul_tl, mul_ll, flat_one, pow_i, cop_lt, cop_le, cop_gt, cop_ge, cop_eq, cop_ne, cop_is, cop_isnt, isD_nn, isD_in, isD_tn, isD_ln, isD_fn, eqD_int, eqD_str, tru_b, tru_n, tru_i, tru_l, tru_t, isEmpty_map, List.isEmpty_nil, List.isEmpty_cons, enm_map, zip_map', blt, un, bi, len_l, len_t, abs_i, int_i, tup_l, tup_t, lst_l, lst_t, max2_i, min2_i, sum_li, sum_ti, idx_0t, idx_1t, idx_2t, idx_0l, idxl_last, isaD, isIntD, isBoolD, isTupD, isStrD, asgS, isNew, putS, svsOf, svOf, mutsOk, mutOk, inMut, rds, permL, Option.map_some, Option.map_none, List.map_cons, List.map_nil, List.getElem?_cons_zero, List.getElem?_cons_succ, List.set_cons_zero, List.set_cons_succ, List.length_cons, List.length_nil, List.length_map, List.length_range, List.append_nil, List.nil_append, List.cons_append, List.contains_cons, List.contains_nil, List.getD_cons_zero, List.getD_cons_succ, Nat.reduceBEq, Nat.reduceAdd, Nat.zero_add, Nat.reduceLeDiff, Nat.reduceLT, Int.reduceLT, Int.reduceLE, Int.reduceNeg, Bool.or_false, Bool.false_or, Bool.or_true, Bool.true_or, Bool.and_true, Bool.true_and, Bool.and_self, Bool.not_true, Bool.not_false, Bool.false_eq_true, reduceCtorEq, if_true, if_false, ite_true, ite_false, true_and, and_true, and_self, decide_true, decide_false, eq_self, ne_eq, not_false_eq_true, not_true_eq_false, lim, noMutA_prI]
    rw [OW_cons]
    walk_at "wp"
    (refine ⟨Sp.has (by assumption), ?_⟩)
    (refine ⟨Sp.has (by assumption), ?_⟩)
    refine hb.callH ⟨ws, ps, rfl, hws, hps, ?_⟩
    walk_at "wp"
    (refine ⟨Sp.has (by assumption), ?_⟩)
    refine hb.callH ⟨ws, ps, rfl, hws, hps, ?_⟩
    walk_at "wp"
    refine hsm.callH ⟨_, rfl, (sh_two hsb).ok (by decide) (by decide), ?_⟩
    walk_at "wp"
    refine ⟨by omega, CWh_draw PyData.int (fun _ b => 1 ≤ b ∧ b ≤ 12) few hg (fun a _ g hg K' hK => ?_) fun vs g r hg => ?_⟩
    · unfold BD
      walk_at "wp"
      (refine ⟨Sp.has (by assumption), ?_⟩)
      refine hd.draw (by decide) (by decide) hg fun l g l0 l1 hg => ?_
      walk_at "wp"
      exact hK _ _ ⟨by omega, by omega⟩ hg
    have hvl := r.length
    have hvs : okW vs := ⟨fun z => by rw [z] at hvl; simp at hvl; omega, by omega, r.all (Q := fun b => 1 ≤ b ∧ b ≤ 12) fun _ _ h => h⟩
    walk_at "wp"
    rw [OW_cons]
    walk_at "wp"
    (refine ⟨Sp.has (by assumption), ?_⟩)
    (refine ⟨Sp.has (by assumption), ?_⟩)
    refine hb.callH ⟨vs, ps, rfl, hvs, by rw [hvl]; exact hps, ?_⟩
    walk_at "wp"
    refine hsm.callH ⟨_, rfl, hsb.ok (by decide) (by decide), ?_⟩
    walk_at "wp"
    refine ⟨by omega, CWh_draw pk (fun (p q : P3) => q.1 = p.1 ∧ q.2.2 = p.2.2 ∧ 0 ≤ q.2.1 ∧ q.2.1 < ws.length) few hg (fun p _ g hg K' hK => ?_) fun qs g r hg => ?_⟩
    · unfold BD pk
      walk_at "wp"
      (refine ⟨Sp.has (by assumption), ?_⟩)
      refine hd.draw (by omega) (by omega) hg fun f g f0 f1 hg => ?_
      walk_at "wp"
      exact hK (p.1, f, p.2.2) _ ⟨rfl, rfl, f0, f1⟩ hg
    have hql := r.length
    have r1 : qs.map (fun q : P3 => (q.1, q.2.2)) = ps.map (fun q : P3 => (q.1, q.2.2)) := by
      clear hql hsb hps hlen
      induction r with
      | nil => rfl
      | cons h _ ih => rw [List.map_cons, List.map_cons, ih, h.1, h.2.1]
    have r2 : qs.map (·.1) = ps.map (·.1) := by
      have := congrArg (List.map Prod.fst) r1
      rw [List.map_map, List.map_map] at this
      exact this
    have hqs : okA ws.length qs := by
      refine ⟨fun q hq => ?_, by rw [r2]; exact hps.asc, by omega, fun q hq => ?_⟩
      · have hf := r.all (Q := fun q : P3 => 0 ≤ q.2.1 ∧ q.2.1 < ws.length) (fun _ _ h => ⟨h.2.2.1, h.2.2.2⟩) q hq
        have hm : (q.1, q.2.2) ∈ ps.map fun q : P3 => (q.1, q.2.2) := by rw [← r1]; exact List.mem_map.mpr ⟨q, hq, rfl⟩
        obtain ⟨p, hp, e⟩ := List.mem_map.mp hm
        obtain ⟨z1, z2, z3, z4⟩ := hps.each p hp
        have e1 := congrArg Prod.fst e
        have e2 := congrArg Prod.snd e
        simp only at e1 e2
        exact ⟨by omega, hf, by omega, by omega⟩
      · have hm : q.1 ∈ ps.map (·.1) := by rw [← r2]; exact List.mem_map.mpr ⟨q, hq, rfl⟩
        obtain ⟨p, hp, e⟩ := List.mem_map.mp hm
        have := hps.mom p hp
        omega
    have hbq : busyP qs = busyP ps := by unfold busyP; rw [r1]
    simp only [↓OW_c_asg, ↓OW_c_par, ↓OW_c_asgt, ↓OW_c_exp, ↓OW_c_app, ↓OW_c_ext, ↓OW_c_popt, ↓OW_c_pmx, ↓OW_c_set, ↓OW_c_ret, ↓OW_c_retn, ↓OW_c_brk, ↓OW_c_cnt, ↓OW_c_pass, ↓OW_nil, ↓OW_asg, ↓OW_par, ↓OW_asgt, ↓OW_exp, ↓OW_app, ↓OW_ext, ↓OW_popt, ↓OW_pmx, ↓OW_set, ↓OW_ret, ↓OW_retn, ↓OW_ife, ↓OW_brk, ↓OW_cnt, ↓OW_pass, ↓OW_for, ↓OW_whl, ↓SM_nil, ↓SM_var, ↓SM_idx, ↓W_var, ↓W_lit, ↓W_bin, ↓W_neg, ↓W_cmp, ↓W_chn, ↓W_and, ↓W_or, ↓Wb_one, ↓Wb_and, ↓Wb_or, ↓W_not, ↓W_ite, ↓W_tup, ↓W_lst, ↓W_idx, ↓W_slc, ↓W_rev, ↓W_blt, ↓W_isa, ↓Ws_nil, ↓Ws_cons, ↓Wo_nil, ↓Wo_cons, ↓W_call0, ↓W_call1, ↓W_callk, ↓W_comp, ↓Wi_rng1, ↓Wi_rng2, ↓Wi_zp, ↓Wi_cons, ↓Wi_enm, ↓hOP, ↓hCB, ↓hSEQ, ↓hIN, ↓hENM, ↓hNG, ↓hRV, ↓hOL, ↓hLS, ↓hCall, ↓hCW, ↓hFW, ↓hWW, ↓BK, ↓seqQ_nx, ↓seqQ_rt, ↓seqQ_bk, ↓seqQ_ct, ↓seqQ_ex, ↓loopQ_nx, ↓loopQ_ct, ↓loopQ_bk, ↓loopQ_rt, ↓loopQ_ex, ↓retQ_nx, ↓retQ_rt, ↓retQ_ex, ↓exQ_seq, ↓exQ_ret, IsDk_dk, OPh_some, OPh_none, OPh_map, OPh_ite, CBh_true, CBh_false, CBh_not, CBh_and, CBh_or, NGh_int, INh_int, RVh_l, RVh_t, SEQh_l, SEQh_t, ENMh_1, ENMh_2, OLh_own, LSh_l, CWh_nil, getD_0d, getD_0o, getD_s, aft_t, aft_f, aft_nd, frzA_nil, frzA_d, frzA_u, frzA_k, frzA_o, frzA_no, frzI_1, frzI_2, frzI_c, frzI_e, frzI_z, bind_nm, bind_tp, fitTs_nil, fitTs_nm, fitTs_tp, setTs_nil, setTs_nm, setTs_tp, wipe_nil, wipe_cons, noMut_non, noMut_b, noMut_i, noMut_s, noMut_l, noMut_t, noMut_fr, noMutA_nil, noMutA_cons, noMutA_app, noMutAll_ints, OP_mul, OP_fdiv, OP_mod, bop, add_i, add_l, add_t, add_s, sub_i, mul_tl, mul_ll, flat_one, pow_i, cop_lt, cop_le, cop_gt, cop_ge, cop_eq, cop_ne, cop_is, cop_isnt, isD_nn, isD_in, isD_tn, isD_ln, isD_fn, eqD_int, eqD_str, tru_b, tru_n, tru_i, tru_l, tru_t, isEmpty_map, List.isEmpty_nil, List.isEmpty_cons, enm_map, zip_map', blt, un, bi, len_l, len_t, abs_i, int_i, tup_l, tup_t, lst_l, lst_t, max2_i, min2_i, sum_li, sum_ti, idx_0t, idx_1t, idx_2t, idx_0l, idxl_last, isaD, isIntD, isBoolD, isTupD, isStrD, asgS, isNew, putS, svsOf, svOf, mutsOk, mutOk, inMut, rds, permL, Option.map_some, Option.map_none, List.map_cons, List.map_nil, List.getElem?_cons_zero, List.getElem?_cons_succ, List.set_cons_zero, List.set_cons_succ, List.length_cons, List.length_nil, List.length_map, List.length_range, List.append_nil, List.nil_append, List.cons_append, List.contains_cons, List.contains_nil, List.getD_cons_zero, List.getD_cons_succ, Nat.reduceBEq, Nat.reduceAdd, Nat.zero_add, Nat.reduceLeDiff, Nat.reduceLT, Int.reduceLT, Int.reduceLE, Int.reduceNeg, Bool.or_false, Bool.false_or, Bool.or_true, Bool.true_or, Bool.and_true, Bool.true_and, Bool.and_self, Bool.not_true, Bool.not_false, Bool.false_eq_true, reduceCtorEq, if_true, if_false, ite_true, ite_false, true_and, and_true, and_self, decide_true, decide_false, eq_self, ne_eq, not_false_eq_true, not_true_eq_false, lim, noMutAll_pks]
    rw [OW_cons]
    walk_at "wp"
    (refine ⟨Sp.has (by assumption), ?_⟩)
    (refine ⟨Sp.has (by assumption), ?_⟩)
    refine hb.callH ⟨ws, qs, rfl, hws, hqs, ?_⟩
    simp only [↓OW_c_asg, ↓OW_c_par, ↓OW_c_asgt, ↓OW_c_exp, ↓OW_c_app, ↓OW_c_ext, ↓OW_c_popt, ↓OW_c_pmx, ↓OW_c_set, ↓OW_c_ret, ↓OW_c_retn, ↓OW_c_brk, ↓OW_c_cnt, ↓OW_c_pass, ↓OW_nil, ↓OW_asg, ↓OW_par, ↓OW_asgt, ↓OW_exp, ↓OW_app, ↓OW_ext, ↓OW_popt, ↓OW_pmx, ↓OW_set, ↓OW_ret, ↓OW_retn, ↓OW_ife, ↓OW_brk, ↓OW_cnt, ↓OW_pass, ↓OW_for, ↓OW_whl, ↓SM_nil, ↓SM_var, ↓SM_idx, ↓W_var, ↓W_lit, ↓W_bin, ↓W_neg, ↓W_cmp, ↓W_chn, ↓W_and, ↓W_or, ↓Wb_one, ↓Wb_and, ↓Wb_or, ↓W_not, ↓W_ite, ↓W_tup, ↓W_lst, ↓W_idx, ↓W_slc, ↓W_rev, ↓W_blt, ↓W_isa, ↓Ws_nil, ↓Ws_cons, ↓Wo_nil, ↓Wo_cons, ↓W_call0, ↓W_call1, ↓W_callk, ↓W_comp, ↓Wi_rng1, ↓Wi_rng2, ↓Wi_zp, ↓Wi_cons, ↓Wi_enm, ↓hOP, ↓hCB, ↓hSEQ, ↓hIN, ↓hENM, ↓hNG, ↓hRV, ↓hOL, ↓hLS, ↓hCall, ↓hCW, ↓hFW, ↓hWW, ↓BK, ↓seqQ_nx, ↓seqQ_rt, ↓seqQ_bk, ↓seqQ_ct, ↓seqQ_ex, ↓loopQ_nx, ↓loopQ_ct, ↓loopQ_bk, ↓loopQ_rt, ↓loopQ_ex, ↓retQ_nx, ↓retQ_rt, ↓retQ_ex, ↓exQ_seq, ↓exQ_ret, IsDk_dk, OPh_some, OPh_none, OPh_map, OPh_ite, CBh_true, CBh_false, CBh_not, CBh_and, CBh_or, NGh_int, INh_int, RVh_l, RVh_t, SEQh_l, SEQh_t, ENMh_1, ENMh_2, OLh_own, LSh_l, CWh_nil, getD_0d, getD_0o, getD_s, aft_t, aft_f, aft_nd, frzA_nil, frzA_d, frzA_u, frzA_k, frzA_o, frzA_no, frzI_1, frzI_2, frzI_c, frzI_e, frzI_z, bind_nm, bind_tp, fitTs_nil, fitTs_nm, fitTs_tp, setTs_nil, setTs_nm, setTs_tp, wipe_nil, wipe_cons, noMut_non, noMut_b, noMut_i, noMut_s, noMut_l, noMut_t, noMut_fr, noMutA_nil, noMutA_cons, noMutA_app, noMutAll_ints, OP_mul, OP_fdiv, OP_mod, bop, add_i, add_l, add_t, add_s, sub_i, mul_tl, mul_ll, flat_one, pow_i, cop_lt, cop_le, cop_gt, cop_ge, cop_eq, cop_ne, cop_is, cop_isnt, isD_nn, isD_in, isD_tn, isD_ln, isD_fn, eqD_int, eqD_str, tru_b, tru_n, tru_i, tru_l, tru_t, isEmpty_map, List.isEmpty_nil, List.isEmpty_cons, enm_map, zip_map', blt, un, bi, len_l, len_t, abs_i, int_i, tup_l, tup_t, lst_l, lst_t, max2_i, min2_i, sum_li, sum_ti, idx_0t, idx_1t, idx_2t, idx_0l, idxl_last, isaD, isIntD, isBoolD, isTupD, isStrD, asgS, isNew, putS, svsOf, svOf, mutsOk, mutOk, inMut, rds, permL, Option.map_some, Option.map_none, List.map_cons, List.map_nil, List.getElem?_cons_zero, List.getElem?_cons_succ, List.set_cons_zero, List.set_cons_succ, List.length_cons, List.length_nil, List.length_map, List.length_range, List.append_nil, List.nil_append, List.cons_append, List.contains_cons, List.contains_nil, List.getD_cons_zero, List.getD_cons_succ, Nat.reduceBEq, Nat.reduceAdd, Nat.zero_add, Nat.reduceLeDiff, Nat.reduceLT, Int.reduceLT, Int.reduceLE, Int.reduceNeg, Bool.or_false, Bool.false_or, Bool.or_true, Bool.true_or, Bool.and_true, Bool.true_and, Bool.and_self, Bool.not_true, Bool.not_false, Bool.false_eq_true, reduceCtorEq, if_true, if_false, ite_true, ite_false, true_and, and_true, and_self, decide_true, decide_false, eq_self, ne_eq, not_false_eq_true, not_true_eq_false, lim, hbq]
    refine hsm.callH ⟨_, rfl, hsb.ok (by decide) (by decide), ?_⟩
    walk_at "wp"
    exact ⟨hg, _, _, _, _, _, _, _, _, _, _, _, rfl⟩
  · rintro τ g ⟨hg, s2, s3, s4, s5, s6, s7, s8, s9, s10, s11, s12, rfl⟩
    simp only [↓OW_c_asg, ↓OW_c_par, ↓OW_c_asgt, ↓OW_c_exp, ↓OW_c_app, ↓OW_c_ext, ↓OW_c_popt, ↓OW_c_pmx, ↓OW_c_set, ↓OW_c_ret, ↓OW_c_retn, ↓OW_c_brk, ↓OW_c_cnt, ↓OW_c_pass, ↓OW_nil, ↓OW_asg, ↓OW_par, ↓OW_asgt, ↓OW_exp, ↓OW_app, ↓OW_ext, ↓OW_popt, ↓OW_pmx, ↓OW_set, ↓OW_ret, ↓OW_retn, ↓OW_ife, ↓OW_brk, ↓OW_cnt, ↓OW_pass, ↓OW_for, ↓OW_whl, ↓SM_nil, ↓SM_var, ↓SM_idx, ↓W_var, ↓W_lit, ↓W_bin, ↓W_neg, ↓W_cmp, ↓W_chn, ↓W_and, ↓W_or, ↓Wb_one, ↓Wb_and, ↓Wb_or, ↓W_not, ↓W_ite, ↓W_tup, ↓W_lst, ↓W_idx, ↓W_slc, ↓W_rev, ↓W_blt, ↓W_isa, ↓Ws_nil, ↓Ws_cons, ↓Wo_nil, ↓Wo_cons, ↓W_call0, ↓W_call1, ↓W_callk, ↓W_comp, ↓Wi_rng1, ↓Wi_rng2, ↓Wi_zp, ↓Wi_cons, ↓Wi_enm, ↓hOP, ↓hCB, ↓hSEQ, ↓hIN, ↓hENM, ↓hNG, ↓hRV, ↓hOL, ↓hLS, ↓hCall, ↓hCW, ↓hFW, ↓hWW, ↓BK, ↓seqQ_nx, ↓seqQ_rt, ↓seqQ_bk, ↓seqQ_ct, ↓seqQ_ex, ↓loopQ_nx, ↓loopQ_ct, ↓loopQ_bk, ↓loopQ_rt, ↓loopQ_ex, ↓retQ_nx, ↓retQ_rt, ↓retQ_ex, ↓exQ_seq, ↓exQ_ret, IsDk_dk, OPh_some, OPh_none, OPh_map, OPh_ite, CBh_true, CBh_false, CBh_not, CBh_and, CBh_or, NGh_int, INh_int, RVh_l, RVh_t, SEQh_l, SEQh_t, ENMh_1, ENMh_2, OLh_own, LSh_l, CWh_nil, getD_0d, getD_0o, getD_s, aft_t, aft_f, aft_nd, frzA_nil, frzA_d, frzA_u, frzA_k, frzA_o, frzA_no, frzI_1, frzI_2, frzI_c, frzI_e, frzI_z, bind_nm, bind_tp, fitTs_nil, fitTs_nm, fitTs_tp, setTs_nil, setTs_nm, setTs_tp, wipe_nil, wipe_cons, noMut_non, noMut_b, noMut_i, noMut_s, noMut_l, noMut_t, noMut_fr, noMutA_nil, noMutA_cons, noMutA_app, noMutAll_ints, OP_mul, OP_fdiv, OP_mod, bop, add_i, add_l, add_t, add_s, sub_i, mul_tl, mul_ll, flat_one, pow_i, cop_lt, cop_le, cop_gt, cop_ge, cop_eq, cop_ne, cop_is, cop_isnt, isD_nn, isD_in, isD_tn, isD_ln, isD_fn, eqD_int, eqD_str, tru_b, tru_n, tru_i, tru_l, tru_t, isEmpty_map, List.isEmpty_nil, List.isEmpty_cons, enm_map, zip_map', blt, un, bi, len_l, len_t, abs_i, int_i, tup_l, tup_t, lst_l, lst_t, max2_i, min2_i, sum_li, sum_ti, idx_0t, idx_1t, idx_2t, idx_0l, idxl_last, isaD, isIntD, isBoolD, isTupD, isStrD, asgS, isNew, putS, svsOf, svOf, mutsOk, mutOk, inMut, rds, permL, Option.map_some, Option.map_none, List.map_cons, List.map_nil, List.getElem?_cons_zero, List.getElem?_cons_succ, List.set_cons_zero, List.set_cons_succ, List.length_cons, List.length_nil, List.length_map, List.length_range, List.append_nil, List.nil_append, List.cons_append, List.contains_cons, List.contains_nil, List.getD_cons_zero, List.getD_cons_succ, Nat.reduceBEq, Nat.reduceAdd, Nat.zero_add, Nat.reduceLeDiff, Nat.reduceLT, Int.reduceLT, Int.reduceLE, Int.reduceNeg, Bool.or_false, Bool.false_or, Bool.or_true, Bool.true_or, Bool.and_true, Bool.true_and, Bool.and_self, Bool.not_true, Bool.not_false, Bool.false_eq_true, reduceCtorEq, if_true, if_false, ite_true, ite_false, true_and, and_true, and_self, decide_true, decide_false, eq_self, ne_eq, not_false_eq_true, not_true_eq_false, lim, topQ_t]
end


set_option Elab.async false
set_option linter.all false
set_option maxRecDepth 100000
set_option maxHeartbeats 4000000

open PySem PySem.Spec PyProof.Rows L2 Slim

def DD : DK := ⟨"left", "mixed", "draws", by decide +kernel, by decide +kernel, by decide +kernel, fun _ => none⟩
def CC : DC := ⟨58339, 2147483587, 48271, 37, 2147483629, 51137, 29, 2147483563, 40014, 2147483647⟩
def KK : KC := ⟨14410090, 39373, 2147483587, 23, 2147483647⟩
theorem CC_good : CC.good := by decide +kernel
theorem KK_good : KK.good := by decide +kernel
def FU : Nat := 10000
theorem c__law_draw : chks n__law_draw false kws (defScope (top 22)) (drawS DD CC) (defBody (top 22)) = true := by decide +kernel
theorem c__law_deck : deckB DD (deckM1 KK) (deckM2 KK) deckXa n__law_deck kws (defScope (top 21)) (defBody (top 21)) = true := by decide +kernel
structure Tops (K : PySem.W.Frag) : Prop where
  d_is_whole : At K "is_whole" (top 5)
  d_is_from_one : At K "is_from_one" (top 6)
  d_is_position : At K "is_position" (top 7)
  d_do_not_descend : At K "do_not_descend" (top 8)
  d_is_weights : At K "is_weights" (top 10)
  d_is_flow : At K "is_flow" (top 11)
  d_is_flow_of_some : At K "is_flow_of_some" (top 12)
  d_is_packet_of_some : At K "is_packet_of_some" (top 13)
  d_is_arrivals_for_some : At K "is_arrivals_for_some" (top 14)
  d_is_arrivals : At K "is_arrivals" (top 15)
  d_check_weights : At K "check_weights" (top 16)
  d_check_arrivals : At K "check_arrivals" (top 17)
  d_busy : At K "busy" (top 19)
  d__law_deck : At K "_law_deck" (top 21)
  d__law_draw : At K "_law_draw" (top 22)
  d__law_pick : At K "_law_pick" (top 23)
  d__law_same : At K "_law_same" (top 24)
  d__law_weights : At K "_law_weights" (top 25)
  d__law_length : At K "_law_length" (top 26)
  d__law_arrivals : At K "_law_arrivals" (top 27)
  d__law_busy : At K "_law_busy" (top 28)
  d_law : At K "law" (top 29)
  z_len : PySem.W.nsIn K mainGlobals "len" = some none
  z_sum : PySem.W.nsIn K mainGlobals "sum" = some none
  z_abs : PySem.W.nsIn K mainGlobals "abs" = some none
  z_int : PySem.W.nsIn K mainGlobals "int" = some none
  z_repr : PySem.W.nsIn K mainGlobals "repr" = some none
  z_all : PySem.W.nsIn K mainGlobals "all" = some none
  z_any : PySem.W.nsIn K mainGlobals "any" = some none
  z_max : PySem.W.nsIn K mainGlobals "max" = some none
  z_min : PySem.W.nsIn K mainGlobals "min" = some none
  z_sorted : PySem.W.nsIn K mainGlobals "sorted" = some none
  z_tuple : PySem.W.nsIn K mainGlobals "tuple" = some none
  z_list : PySem.W.nsIn K mainGlobals "list" = some none
  z_isinstance : PySem.W.nsIn K mainGlobals "isinstance" = some none
  z_bool : PySem.W.nsIn K mainGlobals "bool" = some none
  z_str : PySem.W.nsIn K mainGlobals "str" = some none
  z_range : PySem.W.nsIn K mainGlobals "range" = some none
  z_enumerate : PySem.W.nsIn K mainGlobals "enumerate" = some none
  z_zip : PySem.W.nsIn K mainGlobals "zip" = some none
section
variable (K : PySem.W.Frag)
def T0 : Tab (deckGS DD K) := fun _ => none
theorem addT_self {S : GS} {x : Str} {F : FSpec S} {T : Tab S} : addT x F T x = some F := if_pos rfl
theorem addT_ne {S : GS} {x y : Str} {F : FSpec S} {T : Tab S} (h : y ≠ x) : addT x F T y = T y := if_neg h
def F__law_draw : FSpec (deckGS DD K) := drawF DD K CC
theorem sp__law_draw : SpF (F__law_draw K) true 1 (PDraw) := draw_sp CC
def T1 : Tab (deckGS DD K) := addT "_law_draw" (F__law_draw K) (T0 K)
def F__law_pick : FSpec (deckGS DD K) := ⟨true, 1, runF (T1 K) true 2 FU t__law_pick⟩
theorem e__law_draw_1 : (T1 K) "_law_draw" = some (F__law_draw K) := addT_self
theorem sp__law_pick : SpF (F__law_pick K) true 1 (PPick) := pick_sp (T1 K) FU (.of (e__law_draw_1 K) (sp__law_draw K))
def T2 : Tab (deckGS DD K) := addT "_law_pick" (F__law_pick K) (T1 K)
def F__law_weights : FSpec (deckGS DD K) := ⟨true, 0, runF (T2 K) true 5 FU t__law_weights⟩
theorem ne__law_draw__law_pick : ("_law_draw" : Str) ≠ "_law_pick" := by decide +kernel
theorem e__law_draw_2 : (T2 K) "_law_draw" = some (F__law_draw K) := (addT_ne ne__law_draw__law_pick).trans (e__law_draw_1 K)
theorem e__law_pick_2 : (T2 K) "_law_pick" = some (F__law_pick K) := addT_self
theorem sp__law_weights : SpF (F__law_weights K) true 0 (PWeights) := weights_sp (T2 K) FU (.of (e__law_draw_2 K) (sp__law_draw K)) (.of (e__law_pick_2 K) (sp__law_pick K))
def T3 : Tab (deckGS DD K) := addT "_law_weights" (F__law_weights K) (T2 K)
def F__law_length : FSpec (deckGS DD K) := ⟨true, 1, runF (T3 K) true 2 FU t__law_length⟩
theorem ne__law_draw__law_weights : ("_law_draw" : Str) ≠ "_law_weights" := by decide +kernel
theorem e__law_draw_3 : (T3 K) "_law_draw" = some (F__law_draw K) := (addT_ne ne__law_draw__law_weights).trans (e__law_draw_2 K)
theorem ne__law_pick__law_weights : ("_law_pick" : Str) ≠ "_law_weights" := by decide +kernel
theorem e__law_pick_3 : (T3 K) "_law_pick" = some (F__law_pick K) := (addT_ne ne__law_pick__law_weights).trans (e__law_pick_2 K)
theorem sp__law_length : SpF (F__law_length K) true 1 (PLength) := length_sp (T3 K) FU (.of (e__law_draw_3 K) (sp__law_draw K)) (.of (e__law_pick_3 K) (sp__law_pick K))
def T4 : Tab (deckGS DD K) := addT "_law_length" (F__law_length K) (T3 K)
def F__law_arrivals : FSpec (deckGS DD K) := ⟨true, 2, runF (T4 K) true 10 FU t__law_arrivals⟩
theorem ne__law_draw__law_length : ("_law_draw" : Str) ≠ "_law_length" := by decide +kernel
theorem e__law_draw_4 : (T4 K) "_law_draw" = some (F__law_draw K) := (addT_ne ne__law_draw__law_length).trans (e__law_draw_3 K)
theorem ne__law_pick__law_length : ("_law_pick" : Str) ≠ "_law_length" := by decide +kernel
theorem e__law_pick_4 : (T4 K) "_law_pick" = some (F__law_pick K) := (addT_ne ne__law_pick__law_length).trans (e__law_pick_3 K)
theorem e__law_length_4 : (T4 K) "_law_length" = some (F__law_length K) := addT_self
theorem sp__law_arrivals : SpF (F__law_arrivals K) true 2 (PArrivals) := arrivals_sp (T4 K) FU (.of (e__law_draw_4 K) (sp__law_draw K)) (.of (e__law_pick_4 K) (sp__law_pick K)) (.of (e__law_length_4 K) (sp__law_length K))
def T5 : Tab (deckGS DD K) := addT "_law_arrivals" (F__law_arrivals K) (T4 K)
def F_is_whole : FSpec (deckGS DD K) := ⟨false, 1, runF (T5 K) false 1 FU t_is_whole⟩
theorem sp_is_whole : SpF (F_is_whole K) false 1 (PB isWh any) := is_whole_sp (T5 K) FU 
def T6 : Tab (deckGS DD K) := addT "is_whole" (F_is_whole K) (T5 K)
def F_is_from_one : FSpec (deckGS DD K) := ⟨false, 1, runF (T6 K) false 1 FU t_is_from_one⟩
theorem e_is_whole_6 : (T6 K) "is_whole" = some (F_is_whole K) := addT_self
theorem sp_is_from_one : SpF (F_is_from_one K) false 1 (PB isF1 any) := is_from_one_sp (T6 K) FU (.of (e_is_whole_6 K) (sp_is_whole K))
def T7 : Tab (deckGS DD K) := addT "is_from_one" (F_is_from_one K) (T6 K)
def F_is_weights : FSpec (deckGS DD K) := ⟨false, 1, runF (T7 K) false 2 FU t_is_weights⟩
theorem e_is_from_one_7 : (T7 K) "is_from_one" = some (F_is_from_one K) := addT_self
theorem sp_is_weights : SpF (F_is_weights K) false 1 (PB isWts fewD) := is_weights_sp (T7 K) FU (.of (e_is_from_one_7 K) (sp_is_from_one K))
def T8 : Tab (deckGS DD K) := addT "is_weights" (F_is_weights K) (T7 K)
def F_check_weights : FSpec (deckGS DD K) := ⟨false, 1, runF (T8 K) false 1 FU t_check_weights⟩
theorem e_is_weights_8 : (T8 K) "is_weights" = some (F_is_weights K) := addT_self
theorem sp_check_weights : SpF (F_check_weights K) false 1 (PC isWts fewD) := check_weights_sp (T8 K) FU (.of (e_is_weights_8 K) (sp_is_weights K))
def T9 : Tab (deckGS DD K) := addT "check_weights" (F_check_weights K) (T8 K)
def F_is_flow_of_some : FSpec (deckGS DD K) := ⟨false, 1, runF (T9 K) false 1 FU t_is_flow_of_some⟩
theorem ne_is_whole_is_from_one : ("is_whole" : Str) ≠ "is_from_one" := by decide +kernel
theorem e_is_whole_7 : (T7 K) "is_whole" = some (F_is_whole K) := (addT_ne ne_is_whole_is_from_one).trans (e_is_whole_6 K)
theorem ne_is_whole_is_weights : ("is_whole" : Str) ≠ "is_weights" := by decide +kernel
theorem e_is_whole_8 : (T8 K) "is_whole" = some (F_is_whole K) := (addT_ne ne_is_whole_is_weights).trans (e_is_whole_7 K)
theorem ne_is_whole_check_weights : ("is_whole" : Str) ≠ "check_weights" := by decide +kernel
theorem e_is_whole_9 : (T9 K) "is_whole" = some (F_is_whole K) := (addT_ne ne_is_whole_check_weights).trans (e_is_whole_8 K)
theorem sp_is_flow_of_some : SpF (F_is_flow_of_some K) false 1 (PB isF0 any) := is_flow_of_some_sp (T9 K) FU (.of (e_is_whole_9 K) (sp_is_whole K))
def T10 : Tab (deckGS DD K) := addT "is_flow_of_some" (F_is_flow_of_some K) (T9 K)
def F_is_packet_of_some : FSpec (deckGS DD K) := ⟨false, 1, runF (T10 K) false 4 FU t_is_packet_of_some⟩
theorem ne_is_whole_is_flow_of_some : ("is_whole" : Str) ≠ "is_flow_of_some" := by decide +kernel
theorem e_is_whole_10 : (T10 K) "is_whole" = some (F_is_whole K) := (addT_ne ne_is_whole_is_flow_of_some).trans (e_is_whole_9 K)
theorem e_is_flow_of_some_10 : (T10 K) "is_flow_of_some" = some (F_is_flow_of_some K) := addT_self
theorem ne_is_from_one_is_weights : ("is_from_one" : Str) ≠ "is_weights" := by decide +kernel
theorem e_is_from_one_8 : (T8 K) "is_from_one" = some (F_is_from_one K) := (addT_ne ne_is_from_one_is_weights).trans (e_is_from_one_7 K)
theorem ne_is_from_one_check_weights : ("is_from_one" : Str) ≠ "check_weights" := by decide +kernel
theorem e_is_from_one_9 : (T9 K) "is_from_one" = some (F_is_from_one K) := (addT_ne ne_is_from_one_check_weights).trans (e_is_from_one_8 K)
theorem ne_is_from_one_is_flow_of_some : ("is_from_one" : Str) ≠ "is_flow_of_some" := by decide +kernel
theorem e_is_from_one_10 : (T10 K) "is_from_one" = some (F_is_from_one K) := (addT_ne ne_is_from_one_is_flow_of_some).trans (e_is_from_one_9 K)
theorem sp_is_packet_of_some : SpF (F_is_packet_of_some K) false 1 (PB isPkS any) := is_packet_of_some_sp (T10 K) FU (.of (e_is_whole_10 K) (sp_is_whole K)) (.of (e_is_flow_of_some_10 K) (sp_is_flow_of_some K)) (.of (e_is_from_one_10 K) (sp_is_from_one K))
def T11 : Tab (deckGS DD K) := addT "is_packet_of_some" (F_is_packet_of_some K) (T10 K)
def F_do_not_descend : FSpec (deckGS DD K) := ⟨false, 1, runF (T11 K) false 1 FU t_do_not_descend⟩
theorem sp_do_not_descend : SpF (F_do_not_descend K) false 1 (PSrt) := do_not_descend_sp (T11 K) FU 
def T12 : Tab (deckGS DD K) := addT "do_not_descend" (F_do_not_descend K) (T11 K)
def F_is_arrivals_for_some : FSpec (deckGS DD K) := ⟨false, 1, runF (T12 K) false 4 FU t_is_arrivals_for_some⟩
theorem e_is_packet_of_some_11 : (T11 K) "is_packet_of_some" = some (F_is_packet_of_some K) := addT_self
theorem ne_is_packet_of_some_do_not_descend : ("is_packet_of_some" : Str) ≠ "do_not_descend" := by decide +kernel
theorem e_is_packet_of_some_12 : (T12 K) "is_packet_of_some" = some (F_is_packet_of_some K) := (addT_ne ne_is_packet_of_some_do_not_descend).trans (e_is_packet_of_some_11 K)
theorem e_do_not_descend_12 : (T12 K) "do_not_descend" = some (F_do_not_descend K) := addT_self
theorem sp_is_arrivals_for_some : SpF (F_is_arrivals_for_some K) false 1 (PB isArrS fewD) := is_arrivals_for_some_sp (T12 K) FU (.of (e_is_packet_of_some_12 K) (sp_is_packet_of_some K)) (.of (e_do_not_descend_12 K) (sp_do_not_descend K))
def T13 : Tab (deckGS DD K) := addT "is_arrivals_for_some" (F_is_arrivals_for_some K) (T12 K)
def F_is_position : FSpec (deckGS DD K) := ⟨false, 2, runF (T13 K) false 2 FU t_is_position⟩
theorem ne_is_whole_is_packet_of_some : ("is_whole" : Str) ≠ "is_packet_of_some" := by decide +kernel
theorem e_is_whole_11 : (T11 K) "is_whole" = some (F_is_whole K) := (addT_ne ne_is_whole_is_packet_of_some).trans (e_is_whole_10 K)
theorem ne_is_whole_do_not_descend : ("is_whole" : Str) ≠ "do_not_descend" := by decide +kernel
theorem e_is_whole_12 : (T12 K) "is_whole" = some (F_is_whole K) := (addT_ne ne_is_whole_do_not_descend).trans (e_is_whole_11 K)
theorem ne_is_whole_is_arrivals_for_some : ("is_whole" : Str) ≠ "is_arrivals_for_some" := by decide +kernel
theorem e_is_whole_13 : (T13 K) "is_whole" = some (F_is_whole K) := (addT_ne ne_is_whole_is_arrivals_for_some).trans (e_is_whole_12 K)
theorem sp_is_position : SpF (F_is_position K) false 2 (PPos) := is_position_sp (T13 K) FU (.of (e_is_whole_13 K) (sp_is_whole K))
def T14 : Tab (deckGS DD K) := addT "is_position" (F_is_position K) (T13 K)
def F_is_flow : FSpec (deckGS DD K) := ⟨false, 2, runF (T14 K) false 2 FU t_is_flow⟩
theorem e_is_position_14 : (T14 K) "is_position" = some (F_is_position K) := addT_self
theorem sp_is_flow : SpF (F_is_flow K) false 2 (PFlow) := is_flow_sp (T14 K) FU (.of (e_is_position_14 K) (sp_is_position K))
def T15 : Tab (deckGS DD K) := addT "is_flow" (F_is_flow K) (T14 K)
def F_is_arrivals : FSpec (deckGS DD K) := ⟨false, 2, runF (T15 K) false 4 FU t_is_arrivals⟩
theorem e_check_weights_9 : (T9 K) "check_weights" = some (F_check_weights K) := addT_self
theorem ne_check_weights_is_flow_of_some : ("check_weights" : Str) ≠ "is_flow_of_some" := by decide +kernel
theorem e_check_weights_10 : (T10 K) "check_weights" = some (F_check_weights K) := (addT_ne ne_check_weights_is_flow_of_some).trans (e_check_weights_9 K)
theorem ne_check_weights_is_packet_of_some : ("check_weights" : Str) ≠ "is_packet_of_some" := by decide +kernel
theorem e_check_weights_11 : (T11 K) "check_weights" = some (F_check_weights K) := (addT_ne ne_check_weights_is_packet_of_some).trans (e_check_weights_10 K)
theorem ne_check_weights_do_not_descend : ("check_weights" : Str) ≠ "do_not_descend" := by decide +kernel
theorem e_check_weights_12 : (T12 K) "check_weights" = some (F_check_weights K) := (addT_ne ne_check_weights_do_not_descend).trans (e_check_weights_11 K)
theorem ne_check_weights_is_arrivals_for_some : ("check_weights" : Str) ≠ "is_arrivals_for_some" := by decide +kernel
theorem e_check_weights_13 : (T13 K) "check_weights" = some (F_check_weights K) := (addT_ne ne_check_weights_is_arrivals_for_some).trans (e_check_weights_12 K)
theorem ne_check_weights_is_position : ("check_weights" : Str) ≠ "is_position" := by decide +kernel
theorem e_check_weights_14 : (T14 K) "check_weights" = some (F_check_weights K) := (addT_ne ne_check_weights_is_position).trans (e_check_weights_13 K)
theorem ne_check_weights_is_flow : ("check_weights" : Str) ≠ "is_flow" := by decide +kernel
theorem e_check_weights_15 : (T15 K) "check_weights" = some (F_check_weights K) := (addT_ne ne_check_weights_is_flow).trans (e_check_weights_14 K)
theorem e_is_arrivals_for_some_13 : (T13 K) "is_arrivals_for_some" = some (F_is_arrivals_for_some K) := addT_self
theorem ne_is_arrivals_for_some_is_position : ("is_arrivals_for_some" : Str) ≠ "is_position" := by decide +kernel
theorem e_is_arrivals_for_some_14 : (T14 K) "is_arrivals_for_some" = some (F_is_arrivals_for_some K) := (addT_ne ne_is_arrivals_for_some_is_position).trans (e_is_arrivals_for_some_13 K)
theorem ne_is_arrivals_for_some_is_flow : ("is_arrivals_for_some" : Str) ≠ "is_flow" := by decide +kernel
theorem e_is_arrivals_for_some_15 : (T15 K) "is_arrivals_for_some" = some (F_is_arrivals_for_some K) := (addT_ne ne_is_arrivals_for_some_is_flow).trans (e_is_arrivals_for_some_14 K)
theorem e_is_flow_15 : (T15 K) "is_flow" = some (F_is_flow K) := addT_self
theorem sp_is_arrivals : SpF (F_is_arrivals K) false 2 (PArr) := is_arrivals_sp (T15 K) FU (.of (e_check_weights_15 K) (sp_check_weights K)) (.of (e_is_arrivals_for_some_15 K) (sp_is_arrivals_for_some K)) (.of (e_is_flow_15 K) (sp_is_flow K))
def T16 : Tab (deckGS DD K) := addT "is_arrivals" (F_is_arrivals K) (T15 K)
def F_check_arrivals : FSpec (deckGS DD K) := ⟨false, 2, runF (T16 K) false 2 FU t_check_arrivals⟩
theorem e_is_arrivals_16 : (T16 K) "is_arrivals" = some (F_is_arrivals K) := addT_self
theorem sp_check_arrivals : SpF (F_check_arrivals K) false 2 (PCArr) := check_arrivals_sp (T16 K) FU (.of (e_is_arrivals_16 K) (sp_is_arrivals K))
def T17 : Tab (deckGS DD K) := addT "check_arrivals" (F_check_arrivals K) (T16 K)
def F_busy : FSpec (deckGS DD K) := ⟨false, 2, runF (T17 K) false 8 FU t_busy⟩
theorem e_check_arrivals_17 : (T17 K) "check_arrivals" = some (F_check_arrivals K) := addT_self
theorem sp_busy : SpF (F_busy K) false 2 (PBusy) := busy_sp (T17 K) FU (.of (e_check_arrivals_17 K) (sp_check_arrivals K))
def T18 : Tab (deckGS DD K) := addT "busy" (F_busy K) (T17 K)
def F__law_busy : FSpec (deckGS DD K) := ⟨false, 1, runF (T18 K) false 5 FU t__law_busy⟩
theorem sp__law_busy : SpF (F__law_busy K) false 1 (PLBusy) := lbusy_sp (T18 K) FU 
def T19 : Tab (deckGS DD K) := addT "_law_busy" (F__law_busy K) (T18 K)
def F__law_same : FSpec (deckGS DD K) := pureF 2 (φ_same)
theorem sp__law_same : SpF (F__law_same K) false 2 (PSame) := same_sp
def T20 : Tab (deckGS DD K) := addT "_law_same" (F__law_same K) (T19 K)
theorem e__law_weights_3 : (T3 K) "_law_weights" = some (F__law_weights K) := addT_self
theorem ne__law_weights__law_length : ("_law_weights" : Str) ≠ "_law_length" := by decide +kernel
theorem e__law_weights_4 : (T4 K) "_law_weights" = some (F__law_weights K) := (addT_ne ne__law_weights__law_length).trans (e__law_weights_3 K)
theorem ne__law_weights__law_arrivals : ("_law_weights" : Str) ≠ "_law_arrivals" := by decide +kernel
theorem e__law_weights_5 : (T5 K) "_law_weights" = some (F__law_weights K) := (addT_ne ne__law_weights__law_arrivals).trans (e__law_weights_4 K)
theorem ne__law_weights_is_whole : ("_law_weights" : Str) ≠ "is_whole" := by decide +kernel
theorem e__law_weights_6 : (T6 K) "_law_weights" = some (F__law_weights K) := (addT_ne ne__law_weights_is_whole).trans (e__law_weights_5 K)
theorem ne__law_weights_is_from_one : ("_law_weights" : Str) ≠ "is_from_one" := by decide +kernel
theorem e__law_weights_7 : (T7 K) "_law_weights" = some (F__law_weights K) := (addT_ne ne__law_weights_is_from_one).trans (e__law_weights_6 K)
theorem ne__law_weights_is_weights : ("_law_weights" : Str) ≠ "is_weights" := by decide +kernel
theorem e__law_weights_8 : (T8 K) "_law_weights" = some (F__law_weights K) := (addT_ne ne__law_weights_is_weights).trans (e__law_weights_7 K)
theorem ne__law_weights_check_weights : ("_law_weights" : Str) ≠ "check_weights" := by decide +kernel
theorem e__law_weights_9 : (T9 K) "_law_weights" = some (F__law_weights K) := (addT_ne ne__law_weights_check_weights).trans (e__law_weights_8 K)
theorem ne__law_weights_is_flow_of_some : ("_law_weights" : Str) ≠ "is_flow_of_some" := by decide +kernel
theorem e__law_weights_10 : (T10 K) "_law_weights" = some (F__law_weights K) := (addT_ne ne__law_weights_is_flow_of_some).trans (e__law_weights_9 K)
theorem ne__law_weights_is_packet_of_some : ("_law_weights" : Str) ≠ "is_packet_of_some" := by decide +kernel
theorem e__law_weights_11 : (T11 K) "_law_weights" = some (F__law_weights K) := (addT_ne ne__law_weights_is_packet_of_some).trans (e__law_weights_10 K)
theorem ne__law_weights_do_not_descend : ("_law_weights" : Str) ≠ "do_not_descend" := by decide +kernel
theorem e__law_weights_12 : (T12 K) "_law_weights" = some (F__law_weights K) := (addT_ne ne__law_weights_do_not_descend).trans (e__law_weights_11 K)
theorem ne__law_weights_is_arrivals_for_some : ("_law_weights" : Str) ≠ "is_arrivals_for_some" := by decide +kernel
theorem e__law_weights_13 : (T13 K) "_law_weights" = some (F__law_weights K) := (addT_ne ne__law_weights_is_arrivals_for_some).trans (e__law_weights_12 K)
theorem ne__law_weights_is_position : ("_law_weights" : Str) ≠ "is_position" := by decide +kernel
theorem e__law_weights_14 : (T14 K) "_law_weights" = some (F__law_weights K) := (addT_ne ne__law_weights_is_position).trans (e__law_weights_13 K)
theorem ne__law_weights_is_flow : ("_law_weights" : Str) ≠ "is_flow" := by decide +kernel
theorem e__law_weights_15 : (T15 K) "_law_weights" = some (F__law_weights K) := (addT_ne ne__law_weights_is_flow).trans (e__law_weights_14 K)
theorem ne__law_weights_is_arrivals : ("_law_weights" : Str) ≠ "is_arrivals" := by decide +kernel
theorem e__law_weights_16 : (T16 K) "_law_weights" = some (F__law_weights K) := (addT_ne ne__law_weights_is_arrivals).trans (e__law_weights_15 K)
theorem ne__law_weights_check_arrivals : ("_law_weights" : Str) ≠ "check_arrivals" := by decide +kernel
theorem e__law_weights_17 : (T17 K) "_law_weights" = some (F__law_weights K) := (addT_ne ne__law_weights_check_arrivals).trans (e__law_weights_16 K)
theorem ne__law_weights_busy : ("_law_weights" : Str) ≠ "busy" := by decide +kernel
theorem e__law_weights_18 : (T18 K) "_law_weights" = some (F__law_weights K) := (addT_ne ne__law_weights_busy).trans (e__law_weights_17 K)
theorem ne__law_weights__law_busy : ("_law_weights" : Str) ≠ "_law_busy" := by decide +kernel
theorem e__law_weights_19 : (T19 K) "_law_weights" = some (F__law_weights K) := (addT_ne ne__law_weights__law_busy).trans (e__law_weights_18 K)
theorem ne__law_weights__law_same : ("_law_weights" : Str) ≠ "_law_same" := by decide +kernel
theorem e__law_weights_20 : (T20 K) "_law_weights" = some (F__law_weights K) := (addT_ne ne__law_weights__law_same).trans (e__law_weights_19 K)
theorem e__law_arrivals_5 : (T5 K) "_law_arrivals" = some (F__law_arrivals K) := addT_self
theorem ne__law_arrivals_is_whole : ("_law_arrivals" : Str) ≠ "is_whole" := by decide +kernel
theorem e__law_arrivals_6 : (T6 K) "_law_arrivals" = some (F__law_arrivals K) := (addT_ne ne__law_arrivals_is_whole).trans (e__law_arrivals_5 K)
theorem ne__law_arrivals_is_from_one : ("_law_arrivals" : Str) ≠ "is_from_one" := by decide +kernel
theorem e__law_arrivals_7 : (T7 K) "_law_arrivals" = some (F__law_arrivals K) := (addT_ne ne__law_arrivals_is_from_one).trans (e__law_arrivals_6 K)
theorem ne__law_arrivals_is_weights : ("_law_arrivals" : Str) ≠ "is_weights" := by decide +kernel
theorem e__law_arrivals_8 : (T8 K) "_law_arrivals" = some (F__law_arrivals K) := (addT_ne ne__law_arrivals_is_weights).trans (e__law_arrivals_7 K)
theorem ne__law_arrivals_check_weights : ("_law_arrivals" : Str) ≠ "check_weights" := by decide +kernel
theorem e__law_arrivals_9 : (T9 K) "_law_arrivals" = some (F__law_arrivals K) := (addT_ne ne__law_arrivals_check_weights).trans (e__law_arrivals_8 K)
theorem ne__law_arrivals_is_flow_of_some : ("_law_arrivals" : Str) ≠ "is_flow_of_some" := by decide +kernel
theorem e__law_arrivals_10 : (T10 K) "_law_arrivals" = some (F__law_arrivals K) := (addT_ne ne__law_arrivals_is_flow_of_some).trans (e__law_arrivals_9 K)
theorem ne__law_arrivals_is_packet_of_some : ("_law_arrivals" : Str) ≠ "is_packet_of_some" := by decide +kernel
theorem e__law_arrivals_11 : (T11 K) "_law_arrivals" = some (F__law_arrivals K) := (addT_ne ne__law_arrivals_is_packet_of_some).trans (e__law_arrivals_10 K)
theorem ne__law_arrivals_do_not_descend : ("_law_arrivals" : Str) ≠ "do_not_descend" := by decide +kernel
theorem e__law_arrivals_12 : (T12 K) "_law_arrivals" = some (F__law_arrivals K) := (addT_ne ne__law_arrivals_do_not_descend).trans (e__law_arrivals_11 K)
theorem ne__law_arrivals_is_arrivals_for_some : ("_law_arrivals" : Str) ≠ "is_arrivals_for_some" := by decide +kernel
theorem e__law_arrivals_13 : (T13 K) "_law_arrivals" = some (F__law_arrivals K) := (addT_ne ne__law_arrivals_is_arrivals_for_some).trans (e__law_arrivals_12 K)
theorem ne__law_arrivals_is_position : ("_law_arrivals" : Str) ≠ "is_position" := by decide +kernel
theorem e__law_arrivals_14 : (T14 K) "_law_arrivals" = some (F__law_arrivals K) := (addT_ne ne__law_arrivals_is_position).trans (e__law_arrivals_13 K)
theorem ne__law_arrivals_is_flow : ("_law_arrivals" : Str) ≠ "is_flow" := by decide +kernel
theorem e__law_arrivals_15 : (T15 K) "_law_arrivals" = some (F__law_arrivals K) := (addT_ne ne__law_arrivals_is_flow).trans (e__law_arrivals_14 K)
theorem ne__law_arrivals_is_arrivals : ("_law_arrivals" : Str) ≠ "is_arrivals" := by decide +kernel
theorem e__law_arrivals_16 : (T16 K) "_law_arrivals" = some (F__law_arrivals K) := (addT_ne ne__law_arrivals_is_arrivals).trans (e__law_arrivals_15 K)
theorem ne__law_arrivals_check_arrivals : ("_law_arrivals" : Str) ≠ "check_arrivals" := by decide +kernel
theorem e__law_arrivals_17 : (T17 K) "_law_arrivals" = some (F__law_arrivals K) := (addT_ne ne__law_arrivals_check_arrivals).trans (e__law_arrivals_16 K)
theorem ne__law_arrivals_busy : ("_law_arrivals" : Str) ≠ "busy" := by decide +kernel
theorem e__law_arrivals_18 : (T18 K) "_law_arrivals" = some (F__law_arrivals K) := (addT_ne ne__law_arrivals_busy).trans (e__law_arrivals_17 K)
theorem ne__law_arrivals__law_busy : ("_law_arrivals" : Str) ≠ "_law_busy" := by decide +kernel
theorem e__law_arrivals_19 : (T19 K) "_law_arrivals" = some (F__law_arrivals K) := (addT_ne ne__law_arrivals__law_busy).trans (e__law_arrivals_18 K)
theorem ne__law_arrivals__law_same : ("_law_arrivals" : Str) ≠ "_law_same" := by decide +kernel
theorem e__law_arrivals_20 : (T20 K) "_law_arrivals" = some (F__law_arrivals K) := (addT_ne ne__law_arrivals__law_same).trans (e__law_arrivals_19 K)
theorem ne__law_pick__law_arrivals : ("_law_pick" : Str) ≠ "_law_arrivals" := by decide +kernel
theorem e__law_pick_5 : (T5 K) "_law_pick" = some (F__law_pick K) := (addT_ne ne__law_pick__law_arrivals).trans (e__law_pick_4 K)
theorem ne__law_pick_is_whole : ("_law_pick" : Str) ≠ "is_whole" := by decide +kernel
theorem e__law_pick_6 : (T6 K) "_law_pick" = some (F__law_pick K) := (addT_ne ne__law_pick_is_whole).trans (e__law_pick_5 K)
theorem ne__law_pick_is_from_one : ("_law_pick" : Str) ≠ "is_from_one" := by decide +kernel
theorem e__law_pick_7 : (T7 K) "_law_pick" = some (F__law_pick K) := (addT_ne ne__law_pick_is_from_one).trans (e__law_pick_6 K)
theorem ne__law_pick_is_weights : ("_law_pick" : Str) ≠ "is_weights" := by decide +kernel
theorem e__law_pick_8 : (T8 K) "_law_pick" = some (F__law_pick K) := (addT_ne ne__law_pick_is_weights).trans (e__law_pick_7 K)
theorem ne__law_pick_check_weights : ("_law_pick" : Str) ≠ "check_weights" := by decide +kernel
theorem e__law_pick_9 : (T9 K) "_law_pick" = some (F__law_pick K) := (addT_ne ne__law_pick_check_weights).trans (e__law_pick_8 K)
theorem ne__law_pick_is_flow_of_some : ("_law_pick" : Str) ≠ "is_flow_of_some" := by decide +kernel
theorem e__law_pick_10 : (T10 K) "_law_pick" = some (F__law_pick K) := (addT_ne ne__law_pick_is_flow_of_some).trans (e__law_pick_9 K)
theorem ne__law_pick_is_packet_of_some : ("_law_pick" : Str) ≠ "is_packet_of_some" := by decide +kernel
theorem e__law_pick_11 : (T11 K) "_law_pick" = some (F__law_pick K) := (addT_ne ne__law_pick_is_packet_of_some).trans (e__law_pick_10 K)
theorem ne__law_pick_do_not_descend : ("_law_pick" : Str) ≠ "do_not_descend" := by decide +kernel
theorem e__law_pick_12 : (T12 K) "_law_pick" = some (F__law_pick K) := (addT_ne ne__law_pick_do_not_descend).trans (e__law_pick_11 K)
theorem ne__law_pick_is_arrivals_for_some : ("_law_pick" : Str) ≠ "is_arrivals_for_some" := by decide +kernel
theorem e__law_pick_13 : (T13 K) "_law_pick" = some (F__law_pick K) := (addT_ne ne__law_pick_is_arrivals_for_some).trans (e__law_pick_12 K)
theorem ne__law_pick_is_position : ("_law_pick" : Str) ≠ "is_position" := by decide +kernel
theorem e__law_pick_14 : (T14 K) "_law_pick" = some (F__law_pick K) := (addT_ne ne__law_pick_is_position).trans (e__law_pick_13 K)
theorem ne__law_pick_is_flow : ("_law_pick" : Str) ≠ "is_flow" := by decide +kernel
theorem e__law_pick_15 : (T15 K) "_law_pick" = some (F__law_pick K) := (addT_ne ne__law_pick_is_flow).trans (e__law_pick_14 K)
theorem ne__law_pick_is_arrivals : ("_law_pick" : Str) ≠ "is_arrivals" := by decide +kernel
theorem e__law_pick_16 : (T16 K) "_law_pick" = some (F__law_pick K) := (addT_ne ne__law_pick_is_arrivals).trans (e__law_pick_15 K)
theorem ne__law_pick_check_arrivals : ("_law_pick" : Str) ≠ "check_arrivals" := by decide +kernel
theorem e__law_pick_17 : (T17 K) "_law_pick" = some (F__law_pick K) := (addT_ne ne__law_pick_check_arrivals).trans (e__law_pick_16 K)
theorem ne__law_pick_busy : ("_law_pick" : Str) ≠ "busy" := by decide +kernel
theorem e__law_pick_18 : (T18 K) "_law_pick" = some (F__law_pick K) := (addT_ne ne__law_pick_busy).trans (e__law_pick_17 K)
theorem ne__law_pick__law_busy : ("_law_pick" : Str) ≠ "_law_busy" := by decide +kernel
theorem e__law_pick_19 : (T19 K) "_law_pick" = some (F__law_pick K) := (addT_ne ne__law_pick__law_busy).trans (e__law_pick_18 K)
theorem ne__law_pick__law_same : ("_law_pick" : Str) ≠ "_law_same" := by decide +kernel
theorem e__law_pick_20 : (T20 K) "_law_pick" = some (F__law_pick K) := (addT_ne ne__law_pick__law_same).trans (e__law_pick_19 K)
theorem ne__law_draw__law_arrivals : ("_law_draw" : Str) ≠ "_law_arrivals" := by decide +kernel
theorem e__law_draw_5 : (T5 K) "_law_draw" = some (F__law_draw K) := (addT_ne ne__law_draw__law_arrivals).trans (e__law_draw_4 K)
theorem ne__law_draw_is_whole : ("_law_draw" : Str) ≠ "is_whole" := by decide +kernel
theorem e__law_draw_6 : (T6 K) "_law_draw" = some (F__law_draw K) := (addT_ne ne__law_draw_is_whole).trans (e__law_draw_5 K)
theorem ne__law_draw_is_from_one : ("_law_draw" : Str) ≠ "is_from_one" := by decide +kernel
theorem e__law_draw_7 : (T7 K) "_law_draw" = some (F__law_draw K) := (addT_ne ne__law_draw_is_from_one).trans (e__law_draw_6 K)
theorem ne__law_draw_is_weights : ("_law_draw" : Str) ≠ "is_weights" := by decide +kernel
theorem e__law_draw_8 : (T8 K) "_law_draw" = some (F__law_draw K) := (addT_ne ne__law_draw_is_weights).trans (e__law_draw_7 K)
theorem ne__law_draw_check_weights : ("_law_draw" : Str) ≠ "check_weights" := by decide +kernel
theorem e__law_draw_9 : (T9 K) "_law_draw" = some (F__law_draw K) := (addT_ne ne__law_draw_check_weights).trans (e__law_draw_8 K)
theorem ne__law_draw_is_flow_of_some : ("_law_draw" : Str) ≠ "is_flow_of_some" := by decide +kernel
theorem e__law_draw_10 : (T10 K) "_law_draw" = some (F__law_draw K) := (addT_ne ne__law_draw_is_flow_of_some).trans (e__law_draw_9 K)
theorem ne__law_draw_is_packet_of_some : ("_law_draw" : Str) ≠ "is_packet_of_some" := by decide +kernel
theorem e__law_draw_11 : (T11 K) "_law_draw" = some (F__law_draw K) := (addT_ne ne__law_draw_is_packet_of_some).trans (e__law_draw_10 K)
theorem ne__law_draw_do_not_descend : ("_law_draw" : Str) ≠ "do_not_descend" := by decide +kernel
theorem e__law_draw_12 : (T12 K) "_law_draw" = some (F__law_draw K) := (addT_ne ne__law_draw_do_not_descend).trans (e__law_draw_11 K)
theorem ne__law_draw_is_arrivals_for_some : ("_law_draw" : Str) ≠ "is_arrivals_for_some" := by decide +kernel
theorem e__law_draw_13 : (T13 K) "_law_draw" = some (F__law_draw K) := (addT_ne ne__law_draw_is_arrivals_for_some).trans (e__law_draw_12 K)
theorem ne__law_draw_is_position : ("_law_draw" : Str) ≠ "is_position" := by decide +kernel
theorem e__law_draw_14 : (T14 K) "_law_draw" = some (F__law_draw K) := (addT_ne ne__law_draw_is_position).trans (e__law_draw_13 K)
theorem ne__law_draw_is_flow : ("_law_draw" : Str) ≠ "is_flow" := by decide +kernel
theorem e__law_draw_15 : (T15 K) "_law_draw" = some (F__law_draw K) := (addT_ne ne__law_draw_is_flow).trans (e__law_draw_14 K)
theorem ne__law_draw_is_arrivals : ("_law_draw" : Str) ≠ "is_arrivals" := by decide +kernel
theorem e__law_draw_16 : (T16 K) "_law_draw" = some (F__law_draw K) := (addT_ne ne__law_draw_is_arrivals).trans (e__law_draw_15 K)
theorem ne__law_draw_check_arrivals : ("_law_draw" : Str) ≠ "check_arrivals" := by decide +kernel
theorem e__law_draw_17 : (T17 K) "_law_draw" = some (F__law_draw K) := (addT_ne ne__law_draw_check_arrivals).trans (e__law_draw_16 K)
theorem ne__law_draw_busy : ("_law_draw" : Str) ≠ "busy" := by decide +kernel
theorem e__law_draw_18 : (T18 K) "_law_draw" = some (F__law_draw K) := (addT_ne ne__law_draw_busy).trans (e__law_draw_17 K)
theorem ne__law_draw__law_busy : ("_law_draw" : Str) ≠ "_law_busy" := by decide +kernel
theorem e__law_draw_19 : (T19 K) "_law_draw" = some (F__law_draw K) := (addT_ne ne__law_draw__law_busy).trans (e__law_draw_18 K)
theorem ne__law_draw__law_same : ("_law_draw" : Str) ≠ "_law_same" := by decide +kernel
theorem e__law_draw_20 : (T20 K) "_law_draw" = some (F__law_draw K) := (addT_ne ne__law_draw__law_same).trans (e__law_draw_19 K)
theorem e_busy_18 : (T18 K) "busy" = some (F_busy K) := addT_self
theorem ne_busy__law_busy : ("busy" : Str) ≠ "_law_busy" := by decide +kernel
theorem e_busy_19 : (T19 K) "busy" = some (F_busy K) := (addT_ne ne_busy__law_busy).trans (e_busy_18 K)
theorem ne_busy__law_same : ("busy" : Str) ≠ "_law_same" := by decide +kernel
theorem e_busy_20 : (T20 K) "busy" = some (F_busy K) := (addT_ne ne_busy__law_same).trans (e_busy_19 K)
theorem e__law_busy_19 : (T19 K) "_law_busy" = some (F__law_busy K) := addT_self
theorem ne__law_busy__law_same : ("_law_busy" : Str) ≠ "_law_same" := by decide +kernel
theorem e__law_busy_20 : (T20 K) "_law_busy" = some (F__law_busy K) := (addT_ne ne__law_busy__law_same).trans (e__law_busy_19 K)
theorem e__law_same_20 : (T20 K) "_law_same" = some (F__law_same K) := addT_self
end
theorem all_mk {l : PySem.W.OpenLaw} {w : World} {K : PySem.W.Frag} {h : Heap} {mg : Str → Option Value} {fa : Addr} (X : K.In h) (G : h.Ns mainGlobals mg) (hfa : mg "law" = some (.ref fa)) (Z : Tops K) :
    ∃ (K' : PySem.W.Frag) (cs : Str → Option (Addr × Slim.D)) (cl : CL) (fd : FuncData), K'.In h ∧ ClOk K' h cs cl ∧ (∀ (s : Shared) (u : Value), BindsTo s fd ⟨[u], []⟩ [("script", u)]) ∧ ∀ base : Heap, K'.In base → base.Ns mainGlobals mg → FnG l.prog w K' mg base CX0 100 fa fd ["script"] (spTop cs K') := by
  have hblt : ∀ x, x ∈ bltNames → mg x = none := fun x hx => by
    simp only [bltNames, List.mem_cons, List.not_mem_nil, or_false] at hx
    rcases hx with rfl | rfl | rfl | rfl | rfl | rfl | rfl | rfl | rfl | rfl | rfl | rfl | rfl | rfl | rfl | rfl | rfl | rfl
    · exact PySem.W.mg_none_of X G Z.z_len
    · exact PySem.W.mg_none_of X G Z.z_sum
    · exact PySem.W.mg_none_of X G Z.z_abs
    · exact PySem.W.mg_none_of X G Z.z_int
    · exact PySem.W.mg_none_of X G Z.z_repr
    · exact PySem.W.mg_none_of X G Z.z_all
    · exact PySem.W.mg_none_of X G Z.z_any
    · exact PySem.W.mg_none_of X G Z.z_max
    · exact PySem.W.mg_none_of X G Z.z_min
    · exact PySem.W.mg_none_of X G Z.z_sorted
    · exact PySem.W.mg_none_of X G Z.z_tuple
    · exact PySem.W.mg_none_of X G Z.z_list
    · exact PySem.W.mg_none_of X G Z.z_isinstance
    · exact PySem.W.mg_none_of X G Z.z_bool
    · exact PySem.W.mg_none_of X G Z.z_str
    · exact PySem.W.mg_none_of X G Z.z_range
    · exact PySem.W.mg_none_of X G Z.z_enumerate
    · exact PySem.W.mg_none_of X G Z.z_zip
  have hC : ∀ x a d, DD.cs x = some (a, d) → mg x = some (.ref a) := fun _ _ _ e => nomatch e
  have cok : ClOk K h DD.cs [] := ⟨fun _ _ _ e => (nomatch e), fun _ _ _ e => (nomatch e)⟩
  have X' := X
  generalize hK' : K = K' at X' cok
  have a__law_draw : At K' "_law_draw" (top 22) := (by rw [← hK']; exact Z.d__law_draw)
  have a__law_pick : At K' "_law_pick" (top 23) := (by rw [← hK']; exact Z.d__law_pick)
  have a__law_weights : At K' "_law_weights" (top 25) := (by rw [← hK']; exact Z.d__law_weights)
  have a__law_length : At K' "_law_length" (top 26) := (by rw [← hK']; exact Z.d__law_length)
  have a__law_arrivals : At K' "_law_arrivals" (top 27) := (by rw [← hK']; exact Z.d__law_arrivals)
  have a_is_whole : At K' "is_whole" (top 5) := (by rw [← hK']; exact Z.d_is_whole)
  have a_is_from_one : At K' "is_from_one" (top 6) := (by rw [← hK']; exact Z.d_is_from_one)
  have a_is_weights : At K' "is_weights" (top 10) := (by rw [← hK']; exact Z.d_is_weights)
  have a_check_weights : At K' "check_weights" (top 16) := (by rw [← hK']; exact Z.d_check_weights)
  have a_is_flow_of_some : At K' "is_flow_of_some" (top 12) := (by rw [← hK']; exact Z.d_is_flow_of_some)
  have a_is_packet_of_some : At K' "is_packet_of_some" (top 13) := (by rw [← hK']; exact Z.d_is_packet_of_some)
  have a_do_not_descend : At K' "do_not_descend" (top 8) := (by rw [← hK']; exact Z.d_do_not_descend)
  have a_is_arrivals_for_some : At K' "is_arrivals_for_some" (top 14) := (by rw [← hK']; exact Z.d_is_arrivals_for_some)
  have a_is_position : At K' "is_position" (top 7) := (by rw [← hK']; exact Z.d_is_position)
  have a_is_flow : At K' "is_flow" (top 11) := (by rw [← hK']; exact Z.d_is_flow)
  have a_is_arrivals : At K' "is_arrivals" (top 15) := (by rw [← hK']; exact Z.d_is_arrivals)
  have a_check_arrivals : At K' "check_arrivals" (top 17) := (by rw [← hK']; exact Z.d_check_arrivals)
  have a_busy : At K' "busy" (top 19) := (by rw [← hK']; exact Z.d_busy)
  have a__law_busy : At K' "_law_busy" (top 28) := (by rw [← hK']; exact Z.d__law_busy)
  have a__law_same : At K' "_law_same" (top 24) := (by rw [← hK']; exact Z.d__law_same)
  have a__law_deck : At K' "_law_deck" (top 21) := (by rw [← hK']; exact Z.d__law_deck)
  have a_law : At K' "law" (top 29) := (by rw [← hK']; exact Z.d_law)
  obtain ⟨f, fd, hF, h1, h2, kV, doc, pm, an, cdv, ct, rfl⟩ := a_law.fn X' G
  rw [hfa] at h1
  cases h1
  refine ⟨K', _, _, _, X', cok, fun s u => .of_eq (b_law.pos kV doc pm an cdv ct [u] rfl), fun base Xb Gb => ?_⟩
  have W : Wor l.prog w K' mg base CX0 false := ⟨hblt, fun h => (nomatch h), fun _ _ _ _ _ _ _ _ _ _ => pass0, fun _ _ _ => pass0⟩
  have W' : Wor l.prog w K' mg base CX0 false := ⟨hblt, fun h => (nomatch h), fun _ _ _ _ _ _ _ _ _ _ => pass0, fun _ _ _ => pass0⟩
  have t0 : TabOk l.prog w K' mg base CX0 (deckGS DD K') (fun _ => none) kws 0 (T0 K') := tab_nil hC
  have t1 := tab_add (S := deckGS DD K') rfl W X' G t0 a__law_draw s__law_draw (F__law_draw K') FU (drawS DD CC) rfl b__law_draw c__law_draw (fun ds g _ => draw_run DD K' CC (T0 K') FU CC_good ds g)
  have t2 := tab_add (S := deckGS DD K') rfl W X' G t1 a__law_pick s__law_pick (F__law_pick K') FU t__law_pick rfl b__law_pick c__law_pick (fun _ _ _ => .inr rfl)
  have t3 := tab_add (S := deckGS DD K') rfl W X' G t2 a__law_weights s__law_weights (F__law_weights K') FU t__law_weights rfl b__law_weights c__law_weights (fun _ _ _ => .inr rfl)
  have t4 := tab_add (S := deckGS DD K') rfl W X' G t3 a__law_length s__law_length (F__law_length K') FU t__law_length rfl b__law_length c__law_length (fun _ _ _ => .inr rfl)
  have t5 := tab_add (S := deckGS DD K') rfl W X' G t4 a__law_arrivals s__law_arrivals (F__law_arrivals K') FU t__law_arrivals rfl b__law_arrivals c__law_arrivals (fun _ _ _ => .inr rfl)
  have t6 := tab_add (S := deckGS DD K') rfl W X' G t5 a_is_whole s_is_whole (F_is_whole K') FU t_is_whole rfl b_is_whole c_is_whole (fun _ _ _ => .inr rfl)
  have t7 := tab_add (S := deckGS DD K') rfl W X' G t6 a_is_from_one s_is_from_one (F_is_from_one K') FU t_is_from_one rfl b_is_from_one c_is_from_one (fun _ _ _ => .inr rfl)
  have t8 := tab_add (S := deckGS DD K') rfl W X' G t7 a_is_weights s_is_weights (F_is_weights K') FU t_is_weights rfl b_is_weights c_is_weights (fun _ _ _ => .inr rfl)
  have t9 := tab_add (S := deckGS DD K') rfl W X' G t8 a_check_weights s_check_weights (F_check_weights K') FU t_check_weights rfl b_check_weights c_check_weights (fun _ _ _ => .inr rfl)
  have t10 := tab_add (S := deckGS DD K') rfl W X' G t9 a_is_flow_of_some s_is_flow_of_some (F_is_flow_of_some K') FU t_is_flow_of_some rfl b_is_flow_of_some c_is_flow_of_some (fun _ _ _ => .inr rfl)
  have t11 := tab_add (S := deckGS DD K') rfl W X' G t10 a_is_packet_of_some s_is_packet_of_some (F_is_packet_of_some K') FU t_is_packet_of_some rfl b_is_packet_of_some c_is_packet_of_some (fun _ _ _ => .inr rfl)
  have t12 := tab_add (S := deckGS DD K') rfl W X' G t11 a_do_not_descend s_do_not_descend (F_do_not_descend K') FU t_do_not_descend rfl b_do_not_descend c_do_not_descend (fun _ _ _ => .inr rfl)
  have t13 := tab_add (S := deckGS DD K') rfl W X' G t12 a_is_arrivals_for_some s_is_arrivals_for_some (F_is_arrivals_for_some K') FU t_is_arrivals_for_some rfl b_is_arrivals_for_some c_is_arrivals_for_some (fun _ _ _ => .inr rfl)
  have t14 := tab_add (S := deckGS DD K') rfl W X' G t13 a_is_position s_is_position (F_is_position K') FU t_is_position rfl b_is_position c_is_position (fun _ _ _ => .inr rfl)
  have t15 := tab_add (S := deckGS DD K') rfl W X' G t14 a_is_flow s_is_flow (F_is_flow K') FU t_is_flow rfl b_is_flow c_is_flow (fun _ _ _ => .inr rfl)
  have t16 := tab_add (S := deckGS DD K') rfl W X' G t15 a_is_arrivals s_is_arrivals (F_is_arrivals K') FU t_is_arrivals rfl b_is_arrivals c_is_arrivals (fun _ _ _ => .inr rfl)
  have t17 := tab_add (S := deckGS DD K') rfl W X' G t16 a_check_arrivals s_check_arrivals (F_check_arrivals K') FU t_check_arrivals rfl b_check_arrivals c_check_arrivals (fun _ _ _ => .inr rfl)
  have t18 := tab_add (S := deckGS DD K') rfl W X' G t17 a_busy s_busy (F_busy K') FU t_busy rfl b_busy c_busy (fun _ _ _ => .inr rfl)
  have t19 := tab_add (S := deckGS DD K') rfl W X' G t18 a__law_busy s__law_busy (F__law_busy K') FU t__law_busy rfl b__law_busy c__law_busy (fun _ _ _ => .inr rfl)
  have t20 := tab_add (S := deckGS DD K') rfl W X' G t19 a__law_same s__law_same (F__law_same K') FU t__law_same rfl b__law_same c__law_same (pure_ok (r_same (T19 K') FU))
  obtain ⟨f1, fd1, hF1, q1, q2, kV1, doc1, pm1, an1, cdv1, ct1, rfl⟩ := a__law_deck.fn X' G
  have FD := deck_ok (K := K') (kws := kws) W' DD hF1 s__law_deck (deckM1 KK) (deckM2 KK) deckXa rfl c__law_deck (deck_r1 KK _ 0) (deck_r2 KK KK_good _ 0) (deck_r3a _)
  exact (top_ok W t20 (Nat.le_of_ble_eq_true rfl) q1 q2 FD (.all (b__law_deck.pos kV1 doc1 pm1 an1 cdv1 ct1)) hF s_law FU t_law (Nat.le_of_ble_eq_true rfl) c_law (fun g hg => law_run (T20 K') FU (.of (e__law_weights_20 K') (sp__law_weights K')) (.of (e__law_arrivals_20 K') (sp__law_arrivals K')) (.of (e__law_pick_20 K') (sp__law_pick K')) (.of (e__law_draw_20 K') (sp__law_draw K')) (.of (e_busy_20 K') (sp_busy K')) (.of (e__law_busy_20 K') (sp__law_busy K')) (.of (e__law_same_20 K') (sp__law_same K')) g (Nat.le_trans hg (Nat.le_of_ble_eq_true rfl)))).mono (Nat.le_of_ble_eq_true rfl)


set_option Elab.async false
set_option linter.all false
set_option maxRecDepth 100000
set_option maxHeartbeats 4000000

open PySem PySem.Spec PyProof.Rows L2 Slim

end Law

open PySem PySem.W PyProof.Rows in
set_option maxRecDepth 100000 in
set_option maxHeartbeats 0 in
theorem PySem.Challenge.cw_fairqueue_k09_busy_stretches_whatever_th_holds : PySem.Challenge.rw_fairqueue_k09_busy_stretches_whatever_th.Holds := by
  w_on; o_law; k_head; (case hw => w_witness2)
  k_fill
  refine Slim.walkG (l := PySem.Challenge.rw_fairqueue_k09_busy_stretches_whatever_th) (k := 100) (CX := fun _ => L2.CX0) rfl rfl ⟨rfl, by decide, by decide⟩ (fun w h Y => PySem.W.kIn_of Y) ?F fun _ _ _ _ _ z => z
  case F =>
    intro w mg fa h KX G hmg
    refine' Law.all_mk KX G hmg ⟨(Slim.at_mk ?a0 ?l0 ?c0 ?k0), (Slim.at_mk ?a1 ?l1 ?c1 ?k1), (Slim.at_mk ?a2 ?l2 ?c2 ?k2), (Slim.at_mk ?a3 ?l3 ?c3 ?k3), (Slim.at_mk ?a4 ?l4 ?c4 ?k4), (Slim.at_mk ?a5 ?l5 ?c5 ?k5), (Slim.at_mk ?a6 ?l6 ?c6 ?k6), (Slim.at_mk ?a7 ?l7 ?c7 ?k7), (Slim.at_mk ?a8 ?l8 ?c8 ?k8), (Slim.at_mk ?a9 ?l9 ?c9 ?k9), (Slim.at_mk ?a10 ?l10 ?c10 ?k10), (Slim.at_mk ?a11 ?l11 ?c11 ?k11), (Slim.at_mk ?a12 ?l12 ?c12 ?k12), (Slim.at_mk ?a13 ?l13 ?c13 ?k13), (Slim.at_mk ?a14 ?l14 ?c14 ?k14), (Slim.at_mk ?a15 ?l15 ?c15 ?k15), (Slim.at_mk ?a16 ?l16 ?c16 ?k16), (Slim.at_mk ?a17 ?l17 ?c17 ?k17), (Slim.at_mk ?a18 ?l18 ?c18 ?k18), (Slim.at_mk ?a19 ?l19 ?c19 ?k19), (Slim.at_mk ?a20 ?l20 ?c20 ?k20), (Slim.at_mk ?a21 ?l21 ?c21 ?k21), ?z0, ?z1, ?z2, ?z3, ?z4, ?z5, ?z6, ?z7, ?z8, ?z9, ?z10, ?z11, ?z12, ?z13, ?z14, ?z15, ?z16, ?z17⟩
    (case a0 => k_is)
    (case l0 => k_is)
    (case c0 => k_is)
    (case k0 => k_is)
    (case a1 => k_is)
    (case l1 => k_is)
    (case c1 => k_is)
    (case k1 => k_is)
    (case a2 => k_is)
    (case l2 => k_is)
    (case c2 => k_is)
    (case k2 => k_is)
    (case a3 => k_is)
    (case l3 => k_is)
    (case c3 => k_is)
    (case k3 => k_is)
    (case a4 => k_is)
    (case l4 => k_is)
    (case c4 => k_is)
    (case k4 => k_is)
    (case a5 => k_is)
    (case l5 => k_is)
    (case c5 => k_is)
    (case k5 => k_is)
    (case a6 => k_is)
    (case l6 => k_is)
    (case c6 => k_is)
    (case k6 => k_is)
    (case a7 => k_is)
    (case l7 => k_is)
    (case c7 => k_is)
    (case k7 => k_is)
    (case a8 => k_is)
    (case l8 => k_is)
    (case c8 => k_is)
    (case k8 => k_is)
    (case a9 => k_is)
    (case l9 => k_is)
    (case c9 => k_is)
    (case k9 => k_is)
    (case a10 => k_is)
    (case l10 => k_is)
    (case c10 => k_is)
    (case k10 => k_is)
    (case a11 => k_is)
    (case l11 => k_is)
    (case c11 => k_is)
    (case k11 => k_is)
    (case a12 => k_is)
    (case l12 => k_is)
    (case c12 => k_is)
    (case k12 => k_is)
    (case a13 => k_is)
    (case l13 => k_is)
    (case c13 => k_is)
    (case k13 => k_is)
    (case a14 => k_is)
    (case l14 => k_is)
    (case c14 => k_is)
    (case k14 => k_is)
    (case a15 => k_is)
    (case l15 => k_is)
    (case c15 => k_is)
    (case k15 => k_is)
    (case a16 => k_is)
    (case l16 => k_is)
    (case c16 => k_is)
    (case k16 => k_is)
    (case a17 => k_is)
    (case l17 => k_is)
    (case c17 => k_is)
    (case k17 => k_is)
    (case a18 => k_is)
    (case l18 => k_is)
    (case c18 => k_is)
    (case k18 => k_is)
    (case a19 => k_is)
    (case l19 => k_is)
    (case c19 => k_is)
    (case k19 => k_is)
    (case a20 => k_is)
    (case l20 => k_is)
    (case c20 => k_is)
    (case k20 => k_is)
    (case a21 => k_is)
    (case l21 => k_is)
    (case c21 => k_is)
    (case k21 => k_is)
    (case z0 => k_is)
    (case z1 => k_is)
    (case z2 => k_is)
    (case z3 => k_is)
    (case z4 => k_is)
    (case z5 => k_is)
    (case z6 => k_is)
    (case z7 => k_is)
    (case z8 => k_is)
    (case z9 => k_is)
    (case z10 => k_is)
    (case z11 => k_is)
    (case z12 => k_is)
    (case z13 => k_is)
    (case z14 => k_is)
    (case z15 => k_is)
    (case z16 => k_is)
    (case z17 => k_is)
