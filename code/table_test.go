package code_test

// The chapter's tables: code, name, fields, and of requests the reply's fields.
const (
	requestTable = `1 | create-window | id4 parent4 x-2 y-2 w2 h2 back1 backing1 override1 | -
2 | destroy-window | id4 | -
3 | map-window | id4 | -
4 | unmap-window | id4 | -
5 | configure-window | id4 mask1 x-2 y-2 w2 h2 sibling4 mode1 | -
6 | reparent-window | id4 parent4 x-2 y-2 | -
7 | change-window | id4 mask2 back1 gravity1 bits1 override1 stop4 events4 | -
8 | shape-window | id4 shaped1 L-2 | -
9 | get-geometry | id4 | parent4 x-2 y-2 w2 h2 mapped1 viewable1
10 | query-tree | id4 | parent4 L4
11 | intern-atom | only1 B | atom4
12 | atom-name | atom4 | B
13 | change-property | id4 name4 type4 format1 mode1 L4 | -
14 | delete-property | id4 name4 | -
15 | get-property | id4 name4 type4 offset4 length4 remove1 | type4 format1 left4 L4
16 | list-properties | id4 | L4
17 | create-pixmap | id4 w2 h2 fill1 | -
18 | free-pixmap | id4 | -
19 | create-pen | id4 | -
20 | change-pen | id4 mask1 func1 planes1 fore1 back1 font4 | -
21 | clip-pen | id4 x-2 y-2 clipped1 L-2 | -
22 | free-pen | id4 | -
23 | open-font | id4 B | -
24 | close-font | id4 | -
25 | query-font | id4 | ascent1 descent1 L1
26 | clear-area | id4 x-2 y-2 w2 h2 expose1 | -
27 | copy-area | src4 dst4 pen4 sx-2 sy-2 dx-2 dy-2 w2 h2 expose1 | -
28 | draw-points | dst4 pen4 L-2 | -
29 | draw-lines | dst4 pen4 L-2 | -
30 | fill-rects | dst4 pen4 L-2 | -
31 | fill-poly | dst4 pen4 rule1 L-2 | -
32 | draw-arcs | dst4 pen4 L-2 | -
33 | fill-arcs | dst4 pen4 L-2 | -
34 | put-image | dst4 pen4 x-2 y-2 w2 h2 B | -
35 | get-image | src4 x-2 y-2 w2 h2 | w2 h2 B
36 | draw-text | dst4 pen4 x-2 y-2 opaque1 B | -
37 | set-focus | id4 revert1 time4 | -
38 | get-focus | none | id4 revert1
39 | grab-pointer | id4 owner1 events4 pointer1 keyboard1 time4 | status1
40 | ungrab-pointer | time4 | -
41 | grab-button | id4 button1 mods2 owner1 events4 pointer1 keyboard1 | -
42 | ungrab-button | id4 button1 mods2 | -
43 | grab-keyboard | id4 owner1 pointer1 keyboard1 time4 | status1
44 | ungrab-keyboard | time4 | -
45 | grab-key | id4 key1 mods2 owner1 pointer1 keyboard1 | -
46 | ungrab-key | id4 key1 mods2 | -
47 | allow-events | mode1 time4 | -
48 | query-pointer | id4 | child4 rootx-2 rooty-2 x-2 y-2 state2
49 | warp-pointer | id4 x-2 y-2 | -
50 | set-selection | id4 selection4 time4 | -
51 | get-selection | selection4 | id4
52 | convert-selection | requestor4 selection4 target4 property4 time4 | -
53 | send-event | id4 pass1 events4 code1 L4 | -
54 | save-window | id4 mode1 | -
55 | kill-client | id4 | -
56 | grab-server | none | -
57 | ungrab-server | none | -
58 | no-op | none | -`
	eventTable = `1 | key-press | window4 child4 code1 state2 x-2 y-2 rootx-2 rooty-2 time4
2 | key-release | window4 child4 code1 state2 x-2 y-2 rootx-2 rooty-2 time4
3 | button-press | window4 child4 code1 state2 x-2 y-2 rootx-2 rooty-2 time4
4 | button-release | window4 child4 code1 state2 x-2 y-2 rootx-2 rooty-2 time4
5 | motion | window4 child4 code1 state2 x-2 y-2 rootx-2 rooty-2 time4
6 | enter | window4 detail1 x-2 y-2 rootx-2 rooty-2 state2 time4
7 | leave | window4 detail1 x-2 y-2 rootx-2 rooty-2 state2 time4
8 | focus-in | window4 detail1
9 | focus-out | window4 detail1
10 | expose | window4 x2 y2 w2 h2 count2
11 | graphics-expose | drawable4 x2 y2 w2 h2 count2
12 | no-expose | drawable4
13 | create | parent4 window4 x-2 y-2 w2 h2 override1
14 | destroy | event4 window4
15 | map | event4 window4 override1
16 | unmap | event4 window4
17 | map-request | parent4 window4
18 | configure | event4 window4 above4 x-2 y-2 w2 h2 override1
19 | configure-request | parent4 window4 mask1 x-2 y-2 w2 h2 sibling4 mode1
20 | reparent | event4 window4 parent4 x-2 y-2 override1
21 | property | window4 atom4 state1 time4
22 | selection-clear | window4 selection4 time4
23 | selection-request | owner4 requestor4 selection4 target4 property4 time4
24 | selection-notify | requestor4 selection4 target4 property4 time4
25 | message | window4 type4 L4`
)
