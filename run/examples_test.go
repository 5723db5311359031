package run_test

// example is a script's first line, and the transcript that its steps come to; they stand in it.
type example struct{ first, transcript string }

// wholeExamples are the document's ten examples of the whole.
func wholeExamples() []example {
	return []example{
		{"world nodes 1 clients 1 queue 2 ring 8 window 1 lease 0", `0: begin 1
  client 1 begins 1
1: calm 4
  client 1 has 1
2: do 1 make /a "x" ; make /a ""
  client 1 calls 1.1 make /a "x" ; make /a ""
3: calm 2
  client 1 hears 1.1 at 2 refused 41 at 1
4: do 1 make /a/n "" counted ; make /a "x"
  client 1 calls 1.2 make /a/n "" counted ; make /a "x"
5: calm 2
  client 1 hears 1.2 at 3 refused 40 at 0
6: do 1 make /a "x" ; make /a/n "" counted ; make /a/n "" counted ; list /a
  client 1 calls 1.3 make /a "x" ; make /a/n "" counted ; make /a/n "" counted ; list /a
7: calm 2
  client 1 hears 1.3 at 4 [/a "" 0 4 4 0] [/a/n00000 "" 0 4 4 0] [/a/n00001 "" 0 4 4 0] [/a "" 0 4 4 0 n00000 n00001]
history 4
  1 view 1 open 1
  2 view 1 request 1.1 make /a "x" ; make /a ""
  3 view 1 request 1.2 make /a/n "" counted ; make /a "x"
  4 view 1 request 1.3 make /a "x" ; make /a/n "" counted ; make /a/n "" counted ; list /a
client 1 sees
`},
		{"world nodes 1 clients 1 queue 2 ring 8 window 1 lease 0", `0: begin 1
  client 1 begins 1
1: calm 4
  client 1 has 1
2: do 1 make /n "" counted
  client 1 calls 1.1 make /n "" counted
3: double 0
4: calm 2
  client 1 hears 1.1 at 2 [/n00000 "" 0 2 2 0]
history 2
  1 view 1 open 1
  2 view 1 request 1.1 make /n "" counted
client 1 sees
`},
		{"world nodes 1 clients 1 queue 2 ring 8 window 1 lease 0", `0: begin 1
  client 1 begins 1
1: calm 4
  client 1 has 1
2: do 1 make /a ""
  client 1 calls 1.1 make /a ""
3: within 0 -1
4: restart 1
5: calm 4
  client 1 hears 1.1 at 2 [/a "" 0 2 2 0]
history 2
  1 view 1 open 1
  2 view 1 request 1.1 make /a ""
client 1 sees
`},
		{"world nodes 1 clients 1 queue 2 ring 8 window 1 lease 0", `0: begin 1
  client 1 begins 1
1: calm 4
  client 1 has 1
2: do 1 make /a ""
  client 1 calls 1.1 make /a ""
3: within 0 3
4: restart 1
5: calm 4
  client 1 hears 1.1 at 2 [/a "" 0 2 2 0]
history 2
  1 view 1 open 1
  2 view 1 request 1.1 make /a ""
client 1 sees
`},
		{"world nodes 1 clients 1 queue 2 ring 8 window 1 lease 0", `0: begin 1
  client 1 begins 1
1: calm 4
  client 1 has 1
2: watch 1 / kids
  client 1 asks for 1 / kids
3: watch 1 /a node
  client 1 asks for 2 /a node
4: calm 2
  client 1 is granted 1 at 1 [/ "" 0]
  client 1 is granted 2 at 1
5: do 1 make /a "x" ; make /a/b ""
  client 1 calls 1.1 make /a "x" ; make /a/b ""
6: calm 2
  client 1 hears 1.1 at 2 [/a "" 0 2 2 0] [/a/b "" 0 2 2 0]
  client 1 takes 2 [made /a "x" 0: 1 2]
7: do 1 set /a "y" -1
  client 1 calls 1.2 set /a "y" -1
8: calm 2
  client 1 hears 1.2 at 3 [/a "" 1 2 3 0]
  client 1 takes 3 [set /a "y" 1: 2]
history 3
  1 view 1 open 1
  2 view 1 request 1.1 make /a "x" ; make /a/b ""
  3 view 1 request 1.2 set /a "y" -1
client 1 sees {1 at 3 [/ "" 0] [/a "" 0]} {2 at 3 [/a "y" 1]}
`},
		{"world nodes 1 clients 2 queue 1 ring 8 window 1 lease 0", `0: begin 1
  client 1 begins 1
1: begin 2
  client 2 begins 2
2: calm 4
  client 1 has 1
  client 2 has 2
3: watch 1 / subtree
  client 1 asks for 1 / subtree
4: calm 2
  client 1 is granted 1 at 2 [/ "" 0]
5: do 2 make /a "1"
  client 2 calls 2.1 make /a "1"
6: deliver 0
7: deliver 0
  client 2 hears 2.1 at 3 [/a "" 0 3 3 0]
8: do 2 set /a "2" -1
  client 2 calls 2.2 set /a "2" -1
9: deliver 1
10: deliver 1
  client 2 hears 2.2 at 4 [/a "" 1 3 4 0]
11: drop 0
12: calm 2
  client 1 takes marker 4 {1 [/ "" 0] [/a "2" 1]}
history 4
  1 view 1 open 1
  2 view 1 open 2
  3 view 1 request 2.1 make /a "1"
  4 view 1 request 2.2 set /a "2" -1
client 1 sees {1 at 4 [/ "" 0] [/a "2" 1]}
client 2 sees
`},
		{"world nodes 2 clients 1 queue 2 ring 8 window 1 lease 0", `0: begin 1
  client 1 begins 1
1: calm 6
  client 1 has 1
2: do 1 make /a "x"
  client 1 calls 1.1 make /a "x"
3: calm 4
  client 1 hears 1.1 at 2 [/a "" 0 2 2 0]
4: crash 1
5: promote 2 0
6: do 1 get /a
  client 1 calls 1.2 get /a
7: calm 6
  client 1 hears 1.2 at 3 [/a "x" 0 2 2 0]
history 3
  1 view 1 open 1
  2 view 1 request 1.1 make /a "x"
  3 view 2 request 1.2 get /a
client 1 sees
`},
		{"world nodes 1 clients 1 queue 2 ring 8 window 1 lease 0", `0: begin 1
  client 1 begins 1
1: calm 4
  client 1 has 1
2: watch 1 / subtree
  client 1 asks for 1 / subtree
3: calm 2
  client 1 is granted 1 at 1 [/ "" 0]
4: do 1 make /a "x"
  client 1 calls 1.1 make /a "x"
5: deliver 0
6: deliver 0
  client 1 hears 1.1 at 2 [/a "" 0 2 2 0]
7: drop 0
8: save 1
9: crash 1
10: restart 1
11: calm 4
  client 1 takes marker 2 {1 [/ "" 0] [/a "x" 0]}
history 2
  1 view 1 open 1
  2 view 1 request 1.1 make /a "x"
client 1 sees {1 at 2 [/ "" 0] [/a "x" 0]}
`},
		{"world nodes 1 clients 2 queue 2 ring 8 window 1 lease 0", `0: begin 1
  client 1 begins 1
1: begin 2
  client 2 begins 2
2: calm 4
  client 1 has 1
  client 2 has 2
3: watch 2 / kids
  client 2 asks for 1 / kids
4: do 1 make /b "" brief
  client 1 calls 1.1 make /b "" brief
5: calm 3
  client 2 is granted 1 at 2 [/ "" 0]
  client 1 hears 1.1 at 3 [/b "" 0 3 3 1]
  client 2 takes 3 [made /b "" 0: 1]
6: end 1
  client 1 ends 1
7: calm 3
  client 1 is without 1
  client 2 takes 4 [gone /b "" 0: 1]
8: begin 1
  client 1 begins 17
9: calm 3
  client 1 has 17
history 5
  1 view 1 open 1
  2 view 1 open 2
  3 view 1 request 1.1 make /b "" brief
  4 view 1 close 1
  5 view 1 open 17
client 1 sees
client 2 sees {1 at 4 [/ "" 0]}
`},
		{"world nodes 1 clients 2 queue 2 ring 8 window 1 lease 2", `0: begin 1
  client 1 begins 1
1: begin 2
  client 2 begins 2
2: calm 4
  client 1 has 1
  client 2 has 2
3: do 1 make /b "" brief
  client 1 calls 1.1 make /b "" brief
4: calm 2
  client 1 hears 1.1 at 3 [/b "" 0 3 3 1]
5: tick 1
6: tick 1
7: tick 1
8: drop 0
9: drop 0
10: drop 0
11: drop 0
12: drop 0
13: drop 0
14: drop 0
15: drop 0
16: calm 3
  client 1 is without 1
  client 2 is without 2
history 5
  1 view 1 open 1
  2 view 1 open 2
  3 view 1 request 1.1 make /b "" brief
  4 view 1 expire 1
  5 view 1 expire 2
client 1 sees
client 2 sees
`},
	}
}
